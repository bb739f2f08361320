/- Texts about the program, one after the other: Begun, RDv3, Range, Pieces, Each1, Toks, One. -/
import Derived.Test.YtnhddnldebdmbaaDoorG1
import Derived.RangeFuncBox
import Derived.Deep.CutBlock
import Derived.RangeFuncNested
import Derived.RangeFuncBound
import Derived.RangeFuncCalls
import Derived.RangeFuncLeaves
import Derived.RangeFuncWrites
import Derived.Shelf.Abstract
import Derived.OwnWalkIn
import Derived.TacticsInMore
import Derived.LoopNIn
import Derived.LoopIn
import Derived.Maps.AppendAt
import Derived.Laws.AppendOwn
/- begun: the token that begins at a place. -/
namespace Go.Proofs.YtnhddnldebdmbaaDoor
open Go.RowKit
set_option linter.unusedVariables false

theorem info36 (x : Tk) : (Tryd.prog.info? 99).map (·.size) = some 4 := by kernel_rfl
/-- The cells of a token. -/
abbrev tkC (x : Tk) : Array Value := #[.int .i64 (x.k : Int), .int .i64 (x.at' : Int), .string (bs x.t), .int .i64 (x.n : Int)]
/-- Block b holds the token x. -/
structure TB (W : World) (b : Nat) (x : Tk) : Prop where
  is : W.heap[b]? = some (.cells (tkC x) 99 (0, 0))
theorem TB.lt {W : World} {b : Nat} {x : Tk} (h : TB W b x) : b < W.heap.size := (Array.getElem?_eq_some_iff.1 h.is).1
theorem TB.c0 {W : World} {b : Nat} {x : Tk} (h : TB W b x) : W.cell? ⟨b, 0, none⟩ = some (.int .i64 (x.k : Int)) := by rw [cell_of_row W b 0 _ _ _ h.is]; rfl
theorem TB.c1 {W : World} {b : Nat} {x : Tk} (h : TB W b x) : W.cell? ⟨b, 1, none⟩ = some (.int .i64 (x.at' : Int)) := by rw [cell_of_row W b 1 _ _ _ h.is]; rfl
theorem TB.c2 {W : World} {b : Nat} {x : Tk} (h : TB W b x) : W.cell? ⟨b, 2, none⟩ = some (.string (bs x.t)) := by rw [cell_of_row W b 2 _ _ _ h.is]; rfl
theorem TB.c3 {W : World} {b : Nat} {x : Tk} (h : TB W b x) : W.cell? ⟨b, 3, none⟩ = some (.int .i64 (x.n : Int)) := by rw [cell_of_row W b 3 _ _ _ h.is]; rfl
theorem TB.frozen {W : World} {b : Nat} {x : Tk} (h : TB W b x) (i : Nat) : W.frozen? ⟨b, i, none⟩ = false := frozen_of_row W b i _ _ h.is
theorem TB.below {W W' : World} {b B : Nat} {x : Tk} (h : TB W b x) (hb : Below B W W') (hB : b < B) : TB W' b x := ⟨(hb.block b hB).trans h.is⟩
theorem TB.later {W W' : World} {b : Nat} {x : Tk} (h : TB W b x) (hb : Below W.heap.size W W') : TB W' b x := h.below hb h.lt
theorem TB.alloc {W : World} {b : Nat} {x : Tk} (h : TB W b x) (o : Obj) : TB (W.alloc o) b x := ⟨(Below.heap_alloc W o b h.lt).trans h.is⟩
theorem TB.new (W : World) (x : Tk) : TB (W.alloc (.cells (tkC x) 99)) W.heap.size x := ⟨heap_alloc_new W _⟩
theorem TB.other {W : World} {b : Nat} {x : Tk} (h : TB W b x) (a : Addr) (v : Value) (hb : b ≠ a.block) : TB (W.setCell a v) b x := ⟨(heap_setCell_other W a b v hb).trans h.is⟩

/-- The token that begins with c, ahead of r, if one does. -/
def tkB (i : Nat) (c : UInt8) (r : List UInt8) : Tk := if kind c = 0 then ⟨0, i, [], 0⟩ else tkOf i c r

theorem below_drewN {B : Nat} {a w : World} (h : Below B a w) (n : Nat) : Below B a (w.drewN n) := h.trans ⟨rfl, rfl, rfl, Nat.le_refl _, fun _ _ => rfl⟩
theorem TB.drewN {W : World} {b : Nat} {x : Tk} (h : TB W b x) (n : Nat) : TB (W.drewN n) b x := ⟨h.is⟩
theorem TB.whole {W : World} {b : Nat} {x y : Tk} (h : TB W b x) : TB ((((W.setCell ⟨b, 0, none⟩ (.int .i64 (y.k : Int))).setCell ⟨b, 1, none⟩ (.int .i64 (y.at' : Int))).setCell ⟨b, 2, none⟩ (.string (bs y.t))).setCell ⟨b, 3, none⟩ (.int .i64 (y.n : Int))) b y := by
  have h0 := heap_setCell_same W b 0 _ _ (.int .i64 (y.k : Int)) h.is
  have h1 := heap_setCell_same _ b 1 _ _ (.int .i64 (y.at' : Int)) h0
  have h2 := heap_setCell_same _ b 2 _ _ (.string (bs y.t)) h1
  exact ⟨heap_setCell_same _ b 3 _ _ (.int .i64 (y.n : Int)) h2⟩
theorem TB.text {W : World} {b k i n : Nat} {t t' : List UInt8} (h : TB W b ⟨k, i, t, n⟩) : TB (W.setCell ⟨b, 2, none⟩ (.string (bs t'))) b ⟨k, i, t', n⟩ :=
  ⟨heap_setCell_same _ b 2 _ _ (.string (bs t')) h.is⟩
theorem TB.num {W : World} {b k i n n' : Nat} {t : List UInt8} (h : TB W b ⟨k, i, t, n⟩) : TB (W.setCell ⟨b, 3, none⟩ (.int .i64 (n' : Int))) b ⟨k, i, t, n'⟩ :=
  ⟨heap_setCell_same _ b 3 _ _ (.int .i64 (n' : Int)) h.is⟩
/-- The result of a function that hands a token back out of a block. -/
theorem results_tok {fn : Func} {p : Tmp} (h : fn.results = #[.cell p 99]) (tmps : Array Value) (w : World) (b : Nat) (x : Tk) (hp : tmps.getD p undef = .pointer (some ⟨b, 0, none⟩)) (hb : TB w b x) :
    (results fn tmps).run Tryd.prog w = .ok (tkV x) w :=
  results_cell_row h tmps w b _ _ _ _ hp hb.is Tryd.underlying99 rfl (info36 x)

/-- The two blocks that are made ahead of the walk's work. -/
theorem two_toks (w : World) (k i : Nat) : ∃ W1, (w.alloc (.cells #[.int .i64 0, .int .i64 0, .string { data := #[] }, .int .i64 0] 99)).alloc (.cells #[.int .i64 (k : Int), .int .i64 (i : Int), .string { data := #[] }, .int .i64 0] 99) = W1 ∧
    TB W1 w.heap.size ⟨0, 0, [], 0⟩ ∧ TB W1 (w.heap.size + 1) ⟨k, i, [], 0⟩ ∧ Below w.heap.size w W1 := by
  have T4 := (TB.new w ⟨0, 0, [], 0⟩).alloc (.cells (tkC ⟨k, i, [], 0⟩) 99)
  have T5 := TB.new (w.alloc (.cells (tkC ⟨0, 0, [], 0⟩) 99)) ⟨k, i, [], 0⟩
  rw [World.size_alloc] at T5
  exact ⟨_, rfl, T4, T5, ((Below.refl _ _).alloc (Nat.le_refl _) _).alloc (by simp) _⟩
theorem tk_eq {x : Tk} {k i n : Nat} (h1 : x.k = k) (h2 : x.at' = i) (h3 : x.n = n) : tkV ⟨k, i, x.t, n⟩ = tkV x := by subst h1 h2 h3; rfl
theorem below_whole {B b : Nat} {w W : World} (h : Below B w W) (hb : B ≤ b) (u0 u1 u2 u3 : Value) : Below B w ((((W.setCell ⟨b, 0, none⟩ u0).setCell ⟨b, 1, none⟩ u1).setCell ⟨b, 2, none⟩ u2).setCell ⟨b, 3, none⟩ u3) :=
  (((h.setCell (p := ⟨b, 0, none⟩) hb _).setCell (p := ⟨b, 1, none⟩) hb _).setCell (p := ⟨b, 2, none⟩) hb _).setCell (p := ⟨b, 3, none⟩) hb _

set_option maxRecDepth 100000 in
set_option maxHeartbeats 2000000 in
theorem begun_any (s : ByteArray) (i : Nat) (w : World) (hi : i < s.size) (hs : s.size ≤ 100000) : Calls Tryd.prog 89 #[.string s, .int .i64 (i : Int)] w fun e w' => e = .returned (tkV (tkB i s[i] (s.data.toList.drop (i + 1)))) ∧ Below w.heap.size w w' := by
  obtain ⟨c, hc⟩ : ∃ c, s[i] = c := ⟨_, rfl⟩
  rw [hc]
  have K := Lib.hid (fun w => kindOf_any c w)
  have hk4 := kind_le c
  by_cases hk : kind c = 0
  · have hk0 : tkB i c (s.data.toList.drop (i + 1)) = ⟨0, i, [], 0⟩ := by rw [tkB, if_pos hk]
    rw [hk0]
    rw [hk] at K
    obtain ⟨W1, hW1, T4, T5, B1⟩ := two_toks w 0 i
    have HW := Lib.hid hW1
    clear hk0 hk hW1
    go_enter Tryd.func89, Tryd.ntmps89
    go_upto_region 2 with (go_at_call 91; refine (K.out _).mono ?_; rintro e w' ⟨rfl, rfl⟩)
    rw [show ((0 : Nat) : Int) = 0 from rfl] at HW
    rw [HW.out]
    have c0 := T5.c0
    have c1 := T5.c1
    have c2 := T5.c2
    have c3 := T5.c3
    have f4 := T4.frozen
    have d0 := T4.c0
    have d1 := T4.c1
    have d2 := T4.c2
    have d3 := T4.c3
    go_wp2
    have R := T4.whole (y := ⟨0, i, [], 0⟩)
    exact bodyPost_ret (v := tkV ⟨0, i, [], 0⟩) (results_tok rfl _ _ _ _ rfl R) rfl ⟨rfl, below_whole B1 (Nat.le_refl _) _ _ _ _⟩
  · have hk0 : tkB i c (s.data.toList.drop (i + 1)) = tkOf i c (s.data.toList.drop (i + 1)) := by rw [tkB, if_neg hk]
    rw [hk0]
    generalize hx : tkOf i c (s.data.toList.drop (i + 1)) = x
    have hxl : x.k = kind c ∧ x.at' = i ∧ x.t = c :: (s.data.toList.drop (i + 1)).take (runLen (kind c) (s.data.toList.drop (i + 1))) ∧ (x.n = if kind c = 2 then numOf x.t else 0) ∧ x.t.length ≤ 100000 ∧ (kind c = 2 → ∀ d ∈ x.t, dgt d = true) := by
      subst hx
      exact ⟨rfl, rfl, rfl, rfl, by have := List.length_take_le (runLen (kind c) (s.data.toList.drop (i + 1))) (s.data.toList.drop (i + 1)); have := Lib.size_eq s; simp only [tkOf, List.length_cons] at *; rw [List.length_take]; simp; omega, tkOf_digits⟩
    have HX := Lib.hid hxl
    clear hk0 hx hxl
    generalize kind c = k at *
    obtain ⟨W1, hW1, T4, T5, B1⟩ := two_toks w k i
    have HW := Lib.hid hW1
    clear hW1
    have hk' : ((k : Int) == 0) = false := by simp; omega
    have C := Lib.hid hc
    go_enter Tryd.func89, Tryd.ntmps89
    go_upto_region 2 with (go_at_call 91; refine (K.out _).mono ?_; rintro e w' ⟨rfl, rfl⟩)
    rw [HW.out]
    clear hc HW K
    have c0 := T5.c0
    go_wp2
    clear c0
    go_loopw [6] (fun e wr => ∃ j : Nat, i + 1 ≤ j ∧ j ≤ s.size ∧ e = .int .i64 j ∧ Hid (runLen k (s.data.toList.drop (i + 1)) = (j - (i + 1)) + runLen k (s.data.toList.drop j)) ∧ TB wr w.heap.size ⟨0, 0, [], 0⟩ ∧ TB wr (w.heap.size + 1) ⟨k, i, [], 0⟩ ∧ Below w.heap.size w wr) (fun e _ => s.size - (intOf e).toNat)
    case atStart => exact ⟨i + 1, Nat.le_refl _, by omega, by go_num, Lib.hid (by omega), T4, T5, B1⟩
    case round =>
      clear T4 T5 B1
      obtain ⟨j, hj1, hj2, rfl, hr, T4, T5, B1⟩ := hrel
      have c0 := T5.c0
      by_cases hlt : j < s.size
      · obtain ⟨d, hd⟩ : ∃ d, s[j] = d := ⟨_, rfl⟩
        have G := Lib.hid (fun w => goesOn_any k d w)
        have hr2 := hr.out
        rw [drop_get s j hlt, hd, runLen] at hr2
        have HD := Lib.hid hr2
        have hdk : decide ((j : Int) < (s.size : Int)) = true := decide_eq_true (by omega)
        clear hr2 hr
        cases hg : goes k d
        · rw [hg] at G
          rw [hg, if_neg (by simp)] at HD
          clear hg
          go_wp2
          go_quiet ((go_at_call 92; exact Calls.quiet_of_same (same_of (G.out _))))
          have T4' := T4.drewN nq
          have T5' := T5.drewN nq
          have B1' := below_drewN B1 nq
          generalize wr.drewN nq = W2 at *
          have hx : s.extract i j = bs x.t := by rw [extract_tok s i j hi hj1, C.out, HX.out.2.2.1]; congr 3; have := HD.out; omega
          have N := Lib.hid (fun w hd => number_any x.t w hd HX.out.2.2.2.2.1)
          have L := Lib.hid (fun w => clone_any (bs x.t) w (by rw [bs_size]; exact HX.out.2.2.2.2.1))
          clear T4 T5 B1 c0 HD
          have hw4 := T4'.lt
          have hij : (i : Int) ≤ (j : Int) := by omega
          by_cases hk2 : k = 2
          · have hd2 := Lib.hid (HX.out.2.2.2.2.2 hk2)
            have ht2 : ((k : Int) == 2) = true := by simp; omega
            have HK2 := Lib.hid hk2
            clear hk2
            go_wp2_with (first
              | (go_at_call 93; refine (L.out _).mono ?_; rintro e W3 ⟨rfl, h3⟩; have T4b := T4'.later h3; have T5b := T5'.later h3; have B3 := B1'.trans (h3.mono B1'.size); have f5 := T5b.frozen; have c0 := T5b.c0; have c1 := T5b.c1; have c2 := T5b.c2; have e3 := T5b.c3; have g4 := T4b.frozen; have q0 := T4b.c0; have q1 := T4b.c1; have q2 := T4b.c2; have q3 := T4b.c3; clear T4' T5' B1')
              | (go_at_call 94; refine (N.out _ hd2.out).mono ?_; rintro e W4 ⟨rfl, rfl⟩))
            have R := ((T4b.other ⟨w.heap.size + 1, 2, none⟩ (.string (bs x.t)) (by simp)).other ⟨w.heap.size + 1, 3, none⟩ (.int .i64 (numOf x.t : Int)) (by simp)).whole (y := ⟨k, i, x.t, numOf x.t⟩)
            exact bodyPost_ret (v := tkV ⟨k, i, x.t, numOf x.t⟩) (results_tok rfl _ _ _ _ rfl R) rfl ⟨congrArg Ending.returned (tk_eq HX.out.1 HX.out.2.1 (by rw [HX.out.2.2.2.1, if_pos HK2.out])), below_whole ((B3.setCell (p := ⟨w.heap.size + 1, 2, none⟩) (Nat.le_succ _) _).setCell (p := ⟨w.heap.size + 1, 3, none⟩) (Nat.le_succ _) _) (Nat.le_refl _) _ _ _ _⟩
          · have ht2 : ((k : Int) == 2) = false := by simp; omega
            have HK2 := Lib.hid hk2
            clear hk2
            go_wp2_with (go_at_call 93; refine (L.out _).mono ?_; rintro e W3 ⟨rfl, h3⟩; have T4b := T4'.later h3; have T5b := T5'.later h3; have B3 := B1'.trans (h3.mono B1'.size); have f5 := T5b.frozen; have c0 := T5b.c0; have c1 := T5b.c1; have c2 := T5b.c2; have e3 := T5b.c3; have g4 := T4b.frozen; have q0 := T4b.c0; have q1 := T4b.c1; have q2 := T4b.c2; have q3 := T4b.c3; clear T4' T5' B1')
            have R := (T4b.other ⟨w.heap.size + 1, 2, none⟩ (.string (bs x.t)) (by simp)).whole (y := ⟨k, i, x.t, 0⟩)
            exact bodyPost_ret (v := tkV ⟨k, i, x.t, 0⟩) (results_tok rfl _ _ _ _ rfl R) rfl ⟨congrArg Ending.returned (tk_eq HX.out.1 HX.out.2.1 (by rw [HX.out.2.2.2.1, if_neg HK2.out])), below_whole (B3.setCell (p := ⟨w.heap.size + 1, 2, none⟩) (Nat.le_succ _) _) (Nat.le_refl _) _ _ _ _⟩
        · rw [hg] at G
          rw [hg, if_pos rfl] at HD
          clear hg
          go_wp2
          go_quiet ((go_at_call 92; exact Calls.quiet_of_same (same_of (G.out _))))
          have T4' := T4.drewN nq
          have T5' := T5.drewN nq
          have B1' := below_drewN B1 nq
          clear T4 T5 B1 c0
          go_wp2
          go_roundw
          case rel => exact ⟨j + 1, by omega, by omega, by go_num, Lib.hid (by have := HD.out; omega), T4', T5', B1'⟩
          case measure => simp [intOf]; omega
      · have HD : Hid (runLen k (s.data.toList.drop (i + 1)) = j - (i + 1) + 0) := by
          have hr2 := hr.out
          rw [show s.data.toList.drop j = [] from List.drop_of_length_le (by rw [← Lib.size_eq]; omega)] at hr2
          exact Lib.hid hr2
        have hdk : decide ((j : Int) < (s.size : Int)) = false := decide_eq_false (by omega)
        clear hr
        go_wp2
        go_quiet (fail)
        have T4' := T4.drewN nq
        have T5' := T5.drewN nq
        have B1' := below_drewN B1 nq
        generalize wr.drewN nq = W2 at *
        have hx : s.extract i j = bs x.t := by rw [extract_tok s i j hi hj1, C.out, HX.out.2.2.1]; congr 3; have := HD.out; omega
        have N := Lib.hid (fun w hd => number_any x.t w hd HX.out.2.2.2.2.1)
        have L := Lib.hid (fun w => clone_any (bs x.t) w (by rw [bs_size]; exact HX.out.2.2.2.2.1))
        clear T4 T5 B1 c0 HD
        have hw4 := T4'.lt
        have hij : (i : Int) ≤ (j : Int) := by omega
        by_cases hk2 : k = 2
        · have hd2 := Lib.hid (HX.out.2.2.2.2.2 hk2)
          have ht2 : ((k : Int) == 2) = true := by simp; omega
          have HK2 := Lib.hid hk2
          clear hk2
          go_wp2_with (first
            | (go_at_call 93; refine (L.out _).mono ?_; rintro e W3 ⟨rfl, h3⟩; have T4b := T4'.later h3; have T5b := T5'.later h3; have B3 := B1'.trans (h3.mono B1'.size); have f5 := T5b.frozen; have c0 := T5b.c0; have c1 := T5b.c1; have c2 := T5b.c2; have e3 := T5b.c3; have g4 := T4b.frozen; have q0 := T4b.c0; have q1 := T4b.c1; have q2 := T4b.c2; have q3 := T4b.c3; clear T4' T5' B1')
            | (go_at_call 94; refine (N.out _ hd2.out).mono ?_; rintro e W4 ⟨rfl, rfl⟩))
          have R := ((T4b.other ⟨w.heap.size + 1, 2, none⟩ (.string (bs x.t)) (by simp)).other ⟨w.heap.size + 1, 3, none⟩ (.int .i64 (numOf x.t : Int)) (by simp)).whole (y := ⟨k, i, x.t, numOf x.t⟩)
          exact bodyPost_ret (v := tkV ⟨k, i, x.t, numOf x.t⟩) (results_tok rfl _ _ _ _ rfl R) rfl ⟨congrArg Ending.returned (tk_eq HX.out.1 HX.out.2.1 (by rw [HX.out.2.2.2.1, if_pos HK2.out])), below_whole ((B3.setCell (p := ⟨w.heap.size + 1, 2, none⟩) (Nat.le_succ _) _).setCell (p := ⟨w.heap.size + 1, 3, none⟩) (Nat.le_succ _) _) (Nat.le_refl _) _ _ _ _⟩
        · have ht2 : ((k : Int) == 2) = false := by simp; omega
          have HK2 := Lib.hid hk2
          clear hk2
          go_wp2_with (go_at_call 93; refine (L.out _).mono ?_; rintro e W3 ⟨rfl, h3⟩; have T4b := T4'.later h3; have T5b := T5'.later h3; have B3 := B1'.trans (h3.mono B1'.size); have f5 := T5b.frozen; have c0 := T5b.c0; have c1 := T5b.c1; have c2 := T5b.c2; have e3 := T5b.c3; have g4 := T4b.frozen; have q0 := T4b.c0; have q1 := T4b.c1; have q2 := T4b.c2; have q3 := T4b.c3; clear T4' T5' B1')
          have R := (T4b.other ⟨w.heap.size + 1, 2, none⟩ (.string (bs x.t)) (by simp)).whole (y := ⟨k, i, x.t, 0⟩)
          exact bodyPost_ret (v := tkV ⟨k, i, x.t, 0⟩) (results_tok rfl _ _ _ _ rfl R) rfl ⟨congrArg Ending.returned (tk_eq HX.out.1 HX.out.2.1 (by rw [HX.out.2.2.2.1, if_neg HK2.out])), below_whole (B3.setCell (p := ⟨w.heap.size + 1, 2, none⟩) (Nat.le_succ _) _) (Nat.le_refl _) _ _ _ _⟩
end Go.Proofs.YtnhddnldebdmbaaDoor
/- math/bits.Div64: its quotient is not above. -/
namespace Go.Proofs.YtnhddnldebdmbaaDoor
open Go.RowKit
set_option linter.unusedVariables false
set_option linter.unusedSimpArgs false
theorem or_add (h P l s : Nat) (hP : P = 2 ^ s) (hl : l < P) (hs : h * P + l < 18446744073709551616) : bits .or .u64 ((h * P : Nat) : Int) (l : Int) = ((h * P + l : Nat) : Int) := by
  have e := bits_or_u64_nat (h * P) l (by omega) (by omega)
  rw [e]
  subst hP
  have := Nat.two_pow_add_eq_or_of_lt hl h
  rw [Nat.mul_comm h, this]
theorem div_fin {hi lo y P y2 c x1 d1 d0 q1 q0 c2 : Nat} (hP : 0 < P) (h1 : y2 = y * P) (h2 : c * 18446744073709551616 + x1 = (hi * 18446744073709551616 + lo) * P) (h3 : x1 = d1 * 4294967296 + d0) (h4 : c2 + q1 * y2 = c * 4294967296 + d1) (h5 : q0 * y2 ≤ c2 * 4294967296 + d0) :
    (q1 * 4294967296 + q0) * y ≤ hi * 18446744073709551616 + lo := by
  have e1 : (q1 * 4294967296 + q0) * y2 = q1 * y2 * 4294967296 + q0 * y2 := by rw [Nat.add_mul, Nat.mul_right_comm]
  have e2 : (q1 * 4294967296 + q0) * y2 ≤ (hi * 18446744073709551616 + lo) * P := by
    rw [← h2, e1]
    generalize q1 * y2 = m at *
    generalize q0 * y2 = n at *
    omega
  rw [h1, ← Nat.mul_assoc] at e2
  exact Nat.le_of_mul_le_mul_right e2 hP
theorem add_step {c2 m d0 n B : Nat} (h5 : c2 * B + d0 < n) : (c2 + m) * B + d0 < m * B + n := by
  rw [Nat.add_mul]; omega
theorem div_fin2 {hi lo y P y2 c x1 d1 d0 q1 q0 c2 : Nat} (hP : 0 < P) (h1 : y2 = y * P) (h2 : c * 18446744073709551616 + x1 = (hi * 18446744073709551616 + lo) * P) (h3 : x1 = d1 * 4294967296 + d0) (h4 : c2 + q1 * y2 = c * 4294967296 + d1) (h5 : c2 * 4294967296 + d0 < (q0 + 1) * y2) :
    hi * 18446744073709551616 + lo < (q1 * 4294967296 + q0 + 1) * y := by
  have e1 : (q1 * 4294967296 + q0 + 1) * y2 = q1 * y2 * 4294967296 + (q0 + 1) * y2 := by rw [Nat.add_assoc, Nat.add_mul, Nat.mul_right_comm]
  have e2 : (hi * 18446744073709551616 + lo) * P < (q1 * 4294967296 + q0 + 1) * y2 := by
    rw [← h2, e1]
    clear e1 h1 hP
    obtain ⟨m, hm⟩ : ∃ m, q1 * y2 = m := ⟨_, rfl⟩
    obtain ⟨n, hn⟩ : ∃ n, (q0 + 1) * y2 = n := ⟨_, rfl⟩
    rw [hm] at h4 ⊢
    rw [hn] at h5 ⊢
    clear hm hn h2
    have e9 : c * 18446744073709551616 + x1 = (c * 4294967296 + d1) * 4294967296 + d0 := by omega
    rw [e9, ← h4]
    exact add_step h5
  rw [h1, ← Nat.mul_assoc] at e2
  exact Nat.lt_of_mul_lt_mul_right e2
theorem div_is {z y h : Nat} {q : Int} (hq : q = ((z : Nat) : Int) % 18446744073709551616) (h0 : z * y ≤ h) (h1 : h < (z + 1) * y) (hh : h < 18446744073709551616 * y) : q = ((h / y : Nat) : Int) := by
  have hy : 0 < y := by rcases Nat.eq_zero_or_pos y with e | e; · subst e; omega
                        · exact e
  have e : h / y = z := Nat.le_antisymm (Nat.le_of_lt_succ ((Nat.div_lt_iff_lt_mul hy).2 h1)) ((Nat.le_div_iff_mul_le hy).2 h0)
  have e2 : h / y < 18446744073709551616 := (Nat.div_lt_iff_lt_mul hy).2 hh
  omega
set_option maxRecDepth 100000 in
set_option maxHeartbeats 4000000 in
theorem div64_any (hi lo y : Nat) (w : World) (h1 : hi < y) (h2 : y < 18446744073709551616) (hlo : lo < 18446744073709551616) :
    Calls Tryd.prog 75 #[.int .u64 (hi : Int), .int .u64 (lo : Int), .int .u64 (y : Int)] w fun e w' => (∃ r : Int, e = .returned (.tuple #[.int .u64 (((hi * 18446744073709551616 + lo) / y : Nat) : Int), .int .u64 r])) ∧ Below w.heap.size w w' := by
  have t0 : ((y : Int) == 0) = false := by simp; omega
  have t1 : decide (y ≤ hi) = false := decide_eq_false (by omega)
  by_cases hz : hi = 0
  · subst hz
    have t3 : ¬ y = 0 := by omega
    have e1 : lo / y ≤ lo := Nat.div_le_self _ _
    rw [Nat.zero_mul, Nat.zero_add]
    have q1 : IntKind.u64.wrap ((lo : Int) / (y : Int)) = ((lo / y : Nat) : Int) := u64_in (Int.natCast_ediv _ _).symm (by omega)
    generalize lo / y = qv at *
    clear e1 h1
    go_enter Tryd.func75, Tryd.ntmps75
    go_upto_region 6 with fail
    go_quiet (fail)
    go_wp2
    go_ret2
    exact ⟨⟨_, rfl⟩, below_drewN (Below.refl _ _) nq⟩
  · obtain ⟨b1, b2, b3⟩ := lead y (by omega) h2
    have K := Tryd.bits_LeadingZeros64 (y : Int) w (by omega) (by omega)
    obtain ⟨s, hs⟩ : ∃ s, 64 - Lib.bitLen y = s := ⟨_, rfl⟩
    have hbl := (bitLen_bds 64 y (by omega) h2 (Nat.le_refl _)).1
    have es : (64 : Int) - (Lib.bitLen (y : Int).toNat : Int) = (s : Int) := by rw [Int.toNat_natCast]; omega
    rw [es] at K
    rw [hs] at b2 b3
    have hP : 0 < 2 ^ s := Nat.two_pow_pos s
    have hPe : 2 ^ (64 - s) * 2 ^ s = 18446744073709551616 := by rw [← Nat.pow_add, show 64 - s + s = 64 by omega]
    obtain ⟨P, hPP⟩ : ∃ P, 2 ^ s = P := ⟨_, rfl⟩
    obtain ⟨R, hR⟩ : ∃ R, 2 ^ (64 - s) = R := ⟨_, rfl⟩
    have hsI : (2 : Int) ^ (s : Int).toNat = (P : Int) := by rw [Int.toNat_natCast, ← hPP]; simp
    have hrI : (2 : Int) ^ ((64 - s : Nat) : Int).toNat = (R : Int) := by rw [Int.toNat_natCast, ← hR]; simp
    rw [hPP, hR] at hPe
    rw [hPP] at b2 b3 hP
    have hR0 : 0 < R := by rcases Nat.eq_zero_or_pos R with h | h; · subst h; omega
                           · exact h
    -- lo shifted
    have l1 : lo / R < P := (Nat.div_lt_iff_lt_mul hR0).2 (by rw [Nat.mul_comm]; omega)
    have l2 : lo * P / 18446744073709551616 = lo / R := by rw [← hPe, Nat.mul_div_mul_right _ _ hP]
    have l3 := Nat.div_add_mod (lo * P) 18446744073709551616
    rw [l2] at l3
    have hhi : (hi + 1) * P ≤ y * P := Nat.mul_le_mul_right P h1
    rw [Nat.add_mul, Nat.one_mul] at hhi
    obtain ⟨x1, hx1⟩ : ∃ x1, lo * P % 18446744073709551616 = x1 := ⟨_, rfl⟩
    have hx2 : x1 < 18446744073709551616 := by omega
    have oo := or_add hi P (lo / R) s hPP.symm l1 (by omega)
    have hcx : (hi * P + lo / R) * 18446744073709551616 + x1 = (hi * 18446744073709551616 + lo) * P := by
      rw [Nat.add_mul, Nat.add_mul, Nat.mul_right_comm]
      omega
    have hN : DigN (y * P) (y * P / 4294967296) (y * P % 4294967296) (hi * P + lo / R) (x1 / 4294967296) := ⟨by omega, by omega, by omega, by omega, by omega, by omega⟩
    refine (div_walk hi lo y s (y * P) (y * P / 4294967296) (y * P % 4294967296) (hi * P) (64 - s) (lo / R) (hi * P + lo / R) x1 (x1 / 4294967296) (x1 % 4294967296) w hN (by omega) hlo b3 t0 t1 (by simpa using hz) (by omega) (u64_in rfl (by omega)) ?_ ?_ ?_ ?_ ?_ ?_ oo ?_ ?_ ?_ ?_ K).mono ?_
    · rw [shift_shl .u64 .u64 (y : Int) (s : Int) (by omega) (by simp [IntKind.bits]; omega), hsI, u64_in (Int.natCast_mul y P).symm b3]
    · exact (shift_shr .u64 .u64 ((y * P : Nat) : Int) 32 (by omega) (by decide)).trans (by congr 2)
    · exact Mul64.maskN _ b3
    · rw [shift_shl .u64 .u64 (hi : Int) (s : Int) (by omega) (by simp [IntKind.bits]; omega), hsI, u64_in (Int.natCast_mul hi P).symm (by omega)]
    · exact u64_in (by omega) (by omega)
    · rw [shift_shr .u64 .u64 (lo : Int) ((64 - s : Nat) : Int) (by omega) (by simp [IntKind.bits]; omega), hrI]
      rfl
    · rw [shift_shl .u64 .u64 (lo : Int) (s : Int) (by omega) (by simp [IntKind.bits]; omega), hsI, u64_of (n := x1) (by rw [← Int.natCast_mul]; omega)]
    · exact (shift_shr .u64 .u64 (x1 : Int) 32 (by omega) (by decide)).trans (by congr 2)
    · exact Mul64.maskN _ hx2
    · exact fun x => ⟨_, shift_shr .u64 .u64 x (s : Int) (by omega) (by simp [IntKind.bits]; omega)⟩
    · rintro e w' ⟨⟨q, r, rfl, hq⟩, rfl⟩
      obtain ⟨q1, q0, c2, e1, e2, e3, e4⟩ := hq.out
      have hm : hi * 18446744073709551616 + lo < 18446744073709551616 * y := by
        have := Nat.mul_le_mul_left 18446744073709551616 (show hi + 1 ≤ y from h1)
        omega
      rw [div_is e4 (div_fin hP rfl hcx (by omega) e2 e3.1) (div_fin2 hP rfl hcx (by omega) e2 e3.2.1) hm]
      exact ⟨⟨r, rfl⟩, Below.refl _ _⟩
end Go.Proofs.YtnhddnldebdmbaaDoor
/- A range over an iterator that may itself range over another one: the iterator's word, and the law for its caller. -/
namespace Go.Proofs.YtnhddnldebdmbaaDoor
open Go.RowKit Go.Shelf
set_option linter.unusedVariables false

/-- Blocks that no round of this program writes to: texts and functions that lie in boxes. -/
def fixed : Obj → Bool
  | .cells _ t _ => t == 9 || t == 115
  | _ => false
/-- What a round on x keeps, pre having come: these, and a block that holds x, if x has not come before. -/
def keep (pre : List Tk) (x : Tk) (o : Obj) : Prop := fixed o = true ∨ (x ∉ pre ∧ o = .cells (tkC x) 99 (0, 0))
theorem keep_cells {pre : List Tk} {x : Tk} {o : Obj} (h : keep pre x o) : o.isCells = true := by
  rcases h with h | ⟨_, rfl⟩
  · cases o <;> simp_all [fixed, Obj.isCells]
  · rfl
def Kp (pre : List Tk) (x : Tk) (W W' : World) : Prop := ∀ (k : Nat) (o : Obj), W.heap[k]? = some o → keep pre x o → W'.heap[k]? = some o
variable {pre : List Tk} {x : Tk}
theorem Kp.refl (W : World) : Kp pre x W W := fun _ _ h _ => h
theorem Kp.trans {A B C : World} (h : Kp pre x A B) (k : Kp pre x B C) : Kp pre x A C := fun i o hi ho => k i o (h i o hi ho) ho
theorem Kp.putObj (W : World) (l : Nat) (o o' : Obj) (h : W.heap[l]? = some o) (hc : o.isCells = false) : Kp pre x W (W.putObj l o') := fun k p hk hp =>
  (World.putObj_heap_other (fun e => by subst e; rw [h] at hk; cases hk; rw [keep_cells hp] at hc; cases hc)).trans hk
theorem Kp.later {W W' : World} (h : Below W.heap.size W W') : Kp pre x W W' := fun k o hk _ => (h.block k (Array.getElem?_eq_some_iff.1 hk).1).trans hk
theorem Kp.alloc (W : World) (o : Obj) : Kp pre x W (W.alloc o) := Kp.later ((Below.refl _ _).alloc (Nat.le_refl _) _)
theorem Kp.box {W W' : World} {b : Nat} {s : ByteArray} (h : Kp pre x W W') (hb : Boxed W b 9 (.string s)) : Boxed W' b 9 (.string s) := h b _ hb (.inl rfl)
theorem Kp.fn {W W' : World} {b : Nat} {v : Value} (h : Kp pre x W W') (hb : Boxed W b 115 v) : Boxed W' b 115 v := h b _ hb (.inl rfl)
theorem Kp.tok {W W' : World} {b : Nat} (h : Kp pre x W W') (hx : x ∉ pre) (hb : TB W b x) : TB W' b x := ⟨h b _ hb.is (.inr ⟨hx, rfl⟩)⟩
theorem Kp.setCell {W : World} {a : Addr} {v : Value} {cs : Array Value} {t : TypeId} {fr : Nat × Nat} (h : W.heap[a.block]? = some (.cells cs t fr)) (ht : t ≠ 9 ∧ t ≠ 115 ∧ t ≠ 99) : Kp pre x W (W.setCell a v) := fun k o hk ho =>
  (heap_setCell_other W a k v (fun e => by
    subst e
    rw [h] at hk
    cases hk
    rcases ho with ho | ⟨_, ho⟩
    · simp [fixed] at ho; rcases ho with ho | ho
      · exact ht.1 ho
      · exact ht.2.1 ho
    · cases ho; exact ht.2.2 rfl)).trans hk

/-- An iterator's word: called with yield it tells its tokens, as long as rounds go on; what it holds on to are boxes that no round writes to. -/
def SeqO (n g : Nat) (lb : Array Value) (S Sp : List Tk → Prop) (N : Nat) (w : World) : Prop :=
  ∀ (l : Nat) (J Jx : List Tk → World → Prop) (W : World), Below w.heap.size w W → OwnFrom W.heap.size J → OwnFrom W.heap.size Jx →
    (∀ pre x W1, J pre W1 → pre.length < N → YieldAt Fence.wide (n - 1) Tryd.prog l #[tkV x] W1 fun e W' =>
      (e = .returned (.bool true) ∧ J (pre ++ [x]) W' ∧ Kp pre x W1 W' ∧ KeepsFrom W.heap.size W1 W') ∨ (e = .returned (.bool false) ∧ Jx (pre ++ [x]) W' ∧ KeepsFrom W.heap.size W1 W')) →
    J [] W →
    CallsIn Fence.wide n Tryd.prog g (#[.func (.yield l) #[] #[]] ++ lb) W fun e W' => (∃ v, e = .returned v) ∧ ((∃ xs, S xs ∧ J xs W') ∨ (∃ pre, Sp pre ∧ Jx pre W'))
theorem own_later {β : Type} {B : Nat} {J : β → World → Prop} (h : OwnFrom B J) {s : β} {W W' : World} (hs : J s W) (hb : Below W.heap.size W W') : J s W' :=
  h s W W' none hs ⟨hb.os, hb.tape, hb.output, hb.size, fun k hk _ => hb.block k hk⟩ (fun r e => by cases e)

/-- A loop's two blocks: the one for calls that are put off at D, the record behind it. -/
structure Two (D : Nat) (r : Loop) (W : World) : Prop where
  d : W.heap[D]? = some (.deferred (some []))
  l : W.heap[D + 1]? = some (.loop r)
theorem Two.kept {D B : Nat} {r : Loop} {W W' : World} {row : Option Nat} (h : Two D r W) (hg : W.grownBy W' row) (hB : D + 2 ≤ B) (hr : ∀ i, row = some i → B ≤ i) : Two D r W' :=
  ⟨(hg.block D (Array.getElem?_eq_some_iff.1 h.d).1 (fun e => by have := hr D e.symm; omega)).trans h.d,
   (hg.block (D + 1) (Array.getElem?_eq_some_iff.1 h.l).1 (fun e => by have := hr (D + 1) e.symm; omega)).trans h.l⟩
theorem Two.from {D : Nat} {r : Loop} {W W' : World} (h : Two D r W) (hk : KeepsFrom D W W') : Two D r W' := ⟨hk.same _ _ (Nat.le_refl _) h.d rfl, hk.same _ _ (by omega) h.l rfl⟩
theorem keepsFrom_up {B B' : Nat} {W W' : World} (h : KeepsFrom B W W') (hB : B ≤ B') : KeepsFrom B' W W' := ⟨h.size, fun k o hk => h.same k o (Nat.le_trans hB hk)⟩
theorem keepsFrom_put (B : Nat) (W : World) (l : Nat) (o : Obj) (h : l < B) : KeepsFrom B W (W.putObj l o) := ⟨by simp, fun k p hk hp _ => (World.putObj_heap_other (by omega)).trans hp⟩
theorem Two.put {D : Nat} {r : Loop} {W : World} (h : Two D r W) (r' : Loop) : Two D r' (W.putObj (D + 1) (.loop r')) :=
  ⟨(World.putObj_heap_other (by omega)).trans h.d, World.putObj_heap_same (Array.getElem?_eq_some_iff.1 h.l).1⟩

set_option maxHeartbeats 1000000 in
/-- The law for a caller. Ax: what the assignment to the loop's variable leaves. -/
theorem rangeO {g : Operand} {ps : Array Tmp} {assign body : Code} {Q : Exit → Act → World → Prop} {a : Act} {w w0 : World} {n gf : Nat} {lb : Array Value} {S Sp : List Tk → Prop} {N : Nat}
    (hg : a.eval g = .func (.func gf) #[] lb) (eg : ∀ args w, (callFunc gf args).run Tryd.prog w = .ok (.enter gf args) w)
    (hseq : SeqO (n - 1) gf lb S Sp N w0) (hb0 : Below w0.heap.size w0 w) (hps : ps.size = 1)
    (I : List Tk → World → Prop) (Ix : Code → List Tk → World → Prop) (hI : OwnFrom w.heap.size I) (hIx : ∀ c, OwnFrom w.heap.size (Ix c)) (h0 : I [] w)
    (Ax : Tk → Act → World → Prop) (hAx : ∀ x a', OwnFrom w.heap.size (fun (_ : Unit) W => Ax x a' W))
    (hassign : ∀ (l : Nat) (pre : List Tk) (x : Tk) (W : World) (K : Act → World → Prop), I pre W → (∀ a' W', KeepsFrom w.heap.size W W' → Kp pre x W W' → I pre W' → Ax x a' W' → K a' W') →
      assign.wpIn (Fence.wide.inRound l) (n - 1 - 1) Tryd.prog (Exit.then K (fun _ _ _ => False)) { tmps := (ps.zip #[tkV x]).foldl (fun t (p, v) => t.setIfInBounds p v) a.tmps, defers := [] } W)
    (hbody : ∀ (l : Nat) (pre : List Tk) (x : Tk) (a' : Act) (W : World), I pre W → Ax x a' W → pre.length < N →
      body.wpIn (Fence.wide.inRound l) (n - 1 - 1) Tryd.prog (ownPostG w.heap.size (Kp pre x) I Ix (pre ++ [x]) W) a' W)
    (hdone : ∀ (D : Nat) (xs : List Tk) (W : World), w.heap.size ≤ D → S xs → I xs W → W.heap[D]? = some (.deferred (some [])) → Q .normal { a with defers := { target := .collected D, args := #[] } :: a.defers } W)
    (hstop : ∀ (D : Nat) (c : Code) (pre : List Tk) (W : World), w.heap.size ≤ D → Sp pre → Ix c pre W → W.heap[D]? = some (.deferred (some [])) → c.wpIn Fence.wide n Tryd.prog Q { a with defers := { target := .collected D, args := #[] } :: a.defers } W) :
    (Code.rangeFunc g ps assign body).wpIn Fence.wide n Tryd.prog Q a w := by
  refine wpIn_rangeFunc fun fn hfn => ?_
  obtain ⟨D, hD⟩ : ∃ D, D = w.heap.size := ⟨_, rfl⟩
  obtain ⟨rc, hrc⟩ : ∃ rc : LoopState → Option Code → Loop, rc = fun st pe => { state := st, pending := pe, fn, tmps := a.tmps, params := ps, assign, body, defers := D } := ⟨_, rfl⟩
  obtain ⟨V, hV⟩ : ∃ V, (w.alloc (.deferred (some []))).alloc (.loop (rc .ready none)) = V := ⟨_, rfl⟩
  have hVs : V.heap.size = D + 2 := by rw [← hV, hD]; simp
  have hV2 : Two D (rc .ready none) V := by
    rw [← hV, hD]
    refine ⟨(Below.heap_alloc _ _ _ (by simp)).trans (World.alloc_heap_new w _), ?_⟩
    have := World.alloc_heap_new (w.alloc (.deferred (some []))) (.loop (rc .ready none))
    rwa [World.size_alloc] at this
  have hVI : I [] V := by rw [← hV]; exact hI.alloc _ (hI.alloc _ h0)
  have hVb : Below w0.heap.size w0 V := by
    rw [← hV]
    exact hb0.trans ((((Below.refl _ w).alloc (Nat.le_refl _) _).alloc (by simp) _).mono hb0.size)
  have nc : ∀ {X : World} {row : Option Nat}, (∀ r, row = some r → V.heap.size ≤ r ∧ ∃ o : Obj, X.heap[r]? = some o ∧ o.isCells = false) → (∀ r, row = some r → w.heap.size ≤ r ∧ ∃ o : Obj, X.heap[r]? = some o ∧ o.isCells = false) :=
    fun h r e => ⟨by have := (h r e).1; omega, (h r e).2⟩
  have far : ∀ {X : World} {row : Option Nat}, (∀ r, row = some r → V.heap.size ≤ r ∧ ∃ o : Obj, X.heap[r]? = some o ∧ o.isCells = false) → ∀ r, row = some r → V.heap.size ≤ r := fun h r e => (h r e).1
  have put : ∀ {pre : List Tk} {W : World} {r : Loop} (r' : Loop), I pre W → Two D r W → I pre (W.putObj (D + 1) (.loop r')) := fun r' hi h2 => hI.putObj _ hi (by omega) h2.l rfl
  have putx : ∀ {c : Code} {pre : List Tk} {W : World} {r : Loop} (r' : Loop), Ix c pre W → Two D r W → Ix c pre (W.putObj (D + 1) (.loop r')) := fun r' hi h2 => (hIx _).putObj _ hi (by omega) h2.l rfl
  refine ⟨D + 1, [{ target := .collected D, args := #[] }], V, { target := .fn (.func gf) lb, args := #[.func (.yield (D + 1)) #[] #[]] }, V, gf, #[.func (.yield (D + 1)) #[] #[]] ++ lb, V, ?_, ?_, ?_, ?_, ?_, ?_⟩
  · rw [← hV, hrc, hD]; exact run_enterLoop_outer _ _ _ _ _
  · simp only [resolve, hg]
    simp [go_sem]
  · intro f' _; trivial
  · simp [invoke, go_sem, eg]
  · intro h; cases h
  · refine (hseq (D + 1) (fun pre W => I pre W ∧ Two D (rc .ready none) W) (fun pre W => ∃ c, Ix c pre W ∧ Two D (rc .done (some c)) W) V hVb
      (fun s X Y row hs hg' hr => ⟨hI s X Y row hs.1 hg' (nc hr), hs.2.kept hg' (by omega) (far hr)⟩)
      (fun s X Y row ⟨c, hs, h2⟩ hg' hr => ⟨c, hIx c s X Y row hs hg' (nc hr), h2.kept hg' (by omega) (far hr)⟩)
      ?_ ⟨hVI, hV2⟩).mono ?_
    · rintro pre x W ⟨hi, h2⟩ hlen
      have hy := run_yield (P := Tryd.prog) (args := #[tkV x]) h2.l (by rw [hrc]; simp [hps])
      rw [hrc] at hy
      refine ⟨fn, _, assign, body, hy, roundIn_of_wpIn trivial (hassign _ pre x W _ hi ?_)⟩
      clear hy
      intro a' Wa hkf hkp hia hax
      rw [← hD] at hkf
      have h2a := h2.from hkf
      refine ⟨_, run_beginRound h2a.l (by rw [hrc]), ?_⟩
      have hfb := (keepsFrom_up hkf (show D ≤ V.heap.size by omega)).trans (keepsFrom_put V.heap.size Wa (D + 1) (.loop { rc .ready none with state := .busy }) (by omega))
      have h2b := h2a.put { rc .ready none with state := .busy }
      have hkb := hkp.trans (Kp.putObj Wa (D + 1) _ (.loop { rc .ready none with state := .busy }) h2a.l rfl)
      refine wpIn_mono (hbody _ pre x a' _ (put _ hia h2a) ((hAx x a').putObj (s := ()) _ hax (by omega) h2a.l rfl) hlen) ?_
      generalize Wa.putObj (D + 1) (.loop { rc .ready none with state := .busy }) = Wb at *
      rw [← hD]
      have fin : ∀ (jump : Option Code) (W3 : World), KeepsFrom D Wb W3 →
          (Instr.endRound (D + 1) jump).run Tryd.prog W3 = .ok (.bool jump.isNone) (W3.putObj (D + 1) (.loop (rc (if jump.isNone then .ready else .done) jump))) ∧ Two D { rc .ready none with state := .busy } W3 ∧ ∀ o, KeepsFrom V.heap.size W (W3.putObj (D + 1) o) := fun jump W3 hk3 => by
        have h3 := h2b.from hk3
        have := run_endRound (P := Tryd.prog) jump h3.l
        rw [hrc] at this h3 ⊢
        exact ⟨this, h3, fun o => (hfb.trans (keepsFrom_up hk3 (show D ≤ V.heap.size by omega))).trans (keepsFrom_put V.heap.size W3 (D + 1) o (by omega))⟩
      rintro e a3 W3 hp
      cases e with
      | normal =>
        obtain ⟨hk3, hkp3, hi3⟩ := hp
        obtain ⟨hr, h3, hf3⟩ := fin none W3 hk3
        exact ⟨_, _, hr, .inl ⟨rfl, ⟨put _ hi3 h3, h3.put _⟩, (hkb.trans hkp3).trans (Kp.putObj _ _ _ _ h3.l rfl), hf3 _⟩⟩
      | ret =>
        obtain ⟨hk3, hi3⟩ := hp
        obtain ⟨hr, h3, hf3⟩ := fin (some .ret) W3 hk3
        exact ⟨_, _, hr, .inr ⟨rfl, ⟨.ret, putx _ hi3 h3, h3.put _⟩, hf3 _⟩⟩
      | exit id =>
        obtain ⟨hk3, hi3⟩ := hp
        obtain ⟨hr, h3, hf3⟩ := fin (some (.exit id)) W3 hk3
        exact ⟨_, _, hr, .inr ⟨rfl, ⟨.exit id, putx _ hi3 h3, h3.put _⟩, hf3 _⟩⟩
      | goto t =>
        obtain ⟨hk3, hi3⟩ := hp
        obtain ⟨hr, h3, hf3⟩ := fin (some (.goto t)) W3 hk3
        exact ⟨_, _, hr, .inr ⟨rfl, ⟨.goto t, putx _ hi3 h3, h3.put _⟩, hf3 _⟩⟩
      | panic ch => exact hp.elim
      | outgrown => exact hp.elim
    · rintro e W2 ⟨⟨v, rfl⟩, (⟨xs, hS, hi, h2⟩ | ⟨pre, hSp, c, hi, h2⟩)⟩
      · have he := run_endLoop (P := Tryd.prog) h2.l (by rw [hrc]; simp)
        rw [hrc] at he
        exact ⟨none, _, he, hdone D xs _ (Nat.le_of_eq hD.symm) hS (put _ hi h2) ((World.putObj_heap_other (by omega)).trans h2.d)⟩
      · have he := run_endLoop (P := Tryd.prog) h2.l (by rw [hrc]; simp)
        rw [hrc] at he
        exact ⟨some c, _, he, hstop D c pre _ (Nat.le_of_eq hD.symm) hSp (putx _ hi h2) ((World.putObj_heap_other (by omega)).trans h2.d)⟩
end Go.Proofs.YtnhddnldebdmbaaDoor
/- The pieces of a text, told one by one. -/
namespace Go.Proofs.YtnhddnldebdmbaaDoor
open Go.RowKit Go.Shelf
set_option linter.unusedVariables false
attribute [local go_sem] Oper.semAt_some

theorem pieces_any (s : ByteArray) (w : World) :
    Calls Tryd.prog 86 #[.string s] w fun e w' => e = .returned (.func (.func 87) #[] #[.pointer (some ⟨w.heap.size, 0, none⟩)]) ∧ w' = w.alloc (.cells #[.string s] 9) := by
  have hmf : ∀ (fn : Fn) (first cap : Array Value) (w : World), (Instr.makeFunc fn first cap).run Tryd.prog w = .ok (.func fn first cap) w := fun _ _ _ _ => rfl
  go_enter Tryd.func86, Tryd.ntmps86
  go_wp2
  go_ret
  exact ⟨rfl, rfl⟩
theorem each_seq_any (s : ByteArray) (w : World) :
    Calls Tryd.prog 83 #[.string s] w fun e w' => e = .returned (.func (.func 85) #[] #[.pointer (some ⟨w.heap.size, 0, none⟩)]) ∧ w' = w.alloc (.cells #[.string s] 9) := by
  have hmf : ∀ (fn : Fn) (first cap : Array Value) (w : World), (Instr.makeFunc fn first cap).run Tryd.prog w = .ok (.func fn first cap) w := fun _ _ _ _ => rfl
  go_enter Tryd.func83, Tryd.ntmps83
  go_wp2
  go_ret
  exact ⟨rfl, rfl⟩

/-- The pieces of a whole text. -/
abbrev pieceL (s : ByteArray) : List Tk := pcs 0 s.data.toList
theorem tkOf_len (i : Nat) (c : UInt8) (r : List UInt8) : (tkOf i c r).t.length = 1 + runLen (kind c) r := by
  have := runLen_le (kind c) r
  simp only [tkOf, List.length_cons, List.length_take]
  omega

set_option maxRecDepth 100000 in
set_option maxHeartbeats 4000000 in
theorem pieces1_in (l Bn : Nat) (s : ByteArray) (J Jx : List Tk → World → Prop) (n : Nat) (hn1 : 1 ≤ n) (hs : s.size ≤ 100000) (W : World) (B : Nat) (hO : OwnFrom W.heap.size J)
    (hY : ∀ pre (x : Tk) W, J pre W → pre.length < 100001 → YieldAt Fence.wide (n - 1) Tryd.prog l #[tkV x] W fun e W' =>
      (e = .returned (.bool true) ∧ J (pre ++ [x]) W' ∧ Kp pre x W W' ∧ KeepsFrom B W W') ∨ (e = .returned (.bool false) ∧ Jx (pre ++ [x]) W' ∧ KeepsFrom B W W'))
    (hB : Boxed W Bn 9 (.string s)) (hJ : J [] W) :
    CallsIn Fence.wide n Tryd.prog 87 #[.func (.yield l) #[] #[], .pointer (some ⟨Bn, 0, none⟩)] W fun e W' => (∃ v, e = .returned v) ∧
      ((∃ ys, ys = pieceL s ∧ J ys W') ∨ (∃ pre, pre <+: pieceL s ∧ Jx pre W')) := by
  refine callsIn_of_wp Tryd.func87 rfl trivial ?_ rfl
  simp only [Tryd.ntmps87, List.size_toArray, List.length_cons, List.length_nil, Nat.reduceAdd, Nat.reduceSub, Array.replicate_succ, Array.replicate_zero, List.push_toArray, List.append_toArray, List.nil_append, List.cons_append]
  refine wpIn_wide.2 (wp_scope_straight ((wpIn_wide (n := n)).1 ?_))
  gi_wp2
  refine wpIn_label ?_
  gi_wp2
  gi_loopw [3] (fun i wr => ∃ (k : Nat) (pre : List Tk), k ≤ s.size ∧ i = .int .i64 k ∧ Hid (pieceL s = pre ++ pcs k (s.data.toList.drop k)) ∧ Hid (∀ y ∈ pre, y.at' < k) ∧ J pre wr ∧ Boxed wr Bn 9 (.string s)) (fun i _ => s.size - (intOf i).toNat)
  case atStart => exact ⟨0, [], by omega, rfl, Lib.hid (by simp), Lib.hid (by simp), hJ, hB⟩
  case round =>
    obtain ⟨k, pre, hk, rfl, hx, hlt', hJ1, hB1⟩ := hrel
    clear hJ hB
    by_cases hlt : k < s.size
    · obtain ⟨c, hc⟩ : ∃ c, s[k] = c := ⟨_, rfl⟩
      have hd := drop_get s k hlt
      rw [hc] at hd
      have b1 := Boxed.cell hB1
      have hdk : decide ((k : Int) < (s.size : Int)) = true := decide_eq_true (by omega)
      have hc256 := c.toNat_lt
      by_cases hbl : blank c = true
      · have hq : Hid (pieceL s = pre ++ pcs (k + 1) (s.data.toList.drop (k + 1))) := by
          have := hx.out
          rw [hd, pcs_blank hbl] at this
          exact Lib.hid this
        have hp : Hid (∀ y ∈ pre, y.at' < k + 1) := Lib.hid fun y hy => by have := hlt'.out y hy; omega
        have h2 : c.toNat = 32 ∨ c.toNat = 9 := by simpa [blank] using hbl
        clear hx hlt' hd hbl
        by_cases h32 : c.toNat = 32
        · have t1 : ((c.toNat : Int) == 32) = true := by simp; omega
          gi_wp2
          go_roundw
          case rel => exact ⟨k + 1, pre, by omega, by go_num, hq, hp, hJ1, hB1⟩
          case measure => simp [intOf]; omega
        · have t1 : ((c.toNat : Int) == 32) = false := by simp; omega
          have t2 : ((c.toNat : Int) == 9) = true := by simp; omega
          gi_wp2
          go_roundw
          case rel => exact ⟨k + 1, pre, by omega, by go_num, hq, hp, hJ1, hB1⟩
          case measure => simp [intOf]; omega
      · have hnb : c.toNat ≠ 32 ∧ c.toNat ≠ 9 := by simpa [blank] using hbl
        have t1 : ((c.toNat : Int) == 32) = false := by simp; omega
        have t2 : ((c.toNat : Int) == 9) = false := by simp; omega
        by_cases h35 : c.toNat = 35
        · have hn : noteLen (s.data.toList.drop k) = noteLen (s.data.toList.drop (k + 1)) + 1 := by rw [hd, noteLen_not c _ (by omega)]
          have hnl := noteLen_le (s.data.toList.drop (k + 1))
          rw [List.length_drop, ← Lib.size_eq] at hnl
          have E := Lib.hid (fun w => lineEnd_any s k w hk hs)
          rw [hn] at E
          have hq : Hid (pieceL s = pre ++ pcs (k + (noteLen (s.data.toList.drop (k + 1)) + 1)) (s.data.toList.drop (k + (noteLen (s.data.toList.drop (k + 1)) + 1)))) := by
            have := hx.out
            rw [hd, pcs_hash h35, List.drop_drop] at this
            rw [show k + (noteLen (s.data.toList.drop (k + 1)) + 1) = k + 1 + noteLen (s.data.toList.drop (k + 1)) by omega]
            exact Lib.hid this
          have t3 : ((c.toNat : Int) == 35) = true := by simp; omega
          have hm : 1 ≤ noteLen (s.data.toList.drop (k + 1)) + 1 ∧ k + (noteLen (s.data.toList.drop (k + 1)) + 1) ≤ s.size := by omega
          clear hx hd hn hnl
          generalize noteLen (s.data.toList.drop (k + 1)) + 1 = m at *
          have hp : Hid (∀ y ∈ pre, y.at' < k + m) := Lib.hid fun y hy => by have := hlt'.out y hy; omega
          clear hlt'
          gi_wp2_with (refine ⟨trivial, ?_⟩; gi_at_call 88; refine (callsIn_wide.2 (E.out _)).mono ?_; rintro e w' ⟨rfl, rfl⟩)
          go_roundw
          case rel => exact ⟨k + m, pre, by omega, by go_num, hq, hp, hJ1, hB1⟩
          case measure => simp [intOf]; omega
        · have t3 : ((c.toNat : Int) == 35) = false := by simp; omega
          have Bg := Lib.hid (fun w => begun_any s k w hlt hs)
          have hplen : pre.length < 100001 := by
            have h1 : (pieceL s).length ≤ s.data.toList.length := pcs_length _ 0 s.data.toList (Nat.le_refl _)
            rw [hx.out, List.length_append, ← Lib.size_eq] at h1
            omega
          have hxk : (tkB k c (s.data.toList.drop (k + 1))).at' = k := by unfold tkB tkOf; split <;> rfl
          have hxn : tkB k c (s.data.toList.drop (k + 1)) ∉ pre := fun hm => by have := hlt'.out _ hm; omega
          rw [hc] at Bg
          by_cases hk0 : kind c = 0
          · have hq : Hid (pieceL s = pre ++ [tkB k c (s.data.toList.drop (k + 1))]) := by
              have := hx.out
              rw [hd, pcs_none (by simpa using hbl) h35 hk0] at this
              rw [tkB, if_pos hk0]
              exact Lib.hid this
            have hz : (tkB k c (s.data.toList.drop (k + 1))).k = 0 := by rw [tkB, if_pos hk0]
            generalize tkB k c (s.data.toList.drop (k + 1)) = x at *
            have hz' : ((x.k : Int) == 0) = true := by simp; omega
            clear hd hx hlt' hbl hz hk0 hxk
            gi_wp2_with (refine ⟨trivial, ?_⟩; gi_at_call 89; refine (callsIn_wide.2 (Bg.out _)).mono ?_; rintro e w' ⟨rfl, hb⟩; have hJ3 := own_later hO (own_later hO hJ1 hb) ((Below.refl _ _).alloc (Nat.le_refl _) (.cells (tkC x) 99)); obtain ⟨fn, tmps, assign, body, hy, hR⟩ := hY pre x _ hJ3 hplen; simp only [tkV, tkC] at hy)
            refine hR.mono ?_
            rintro e W3 (⟨rfl, hJ4, hk3, -⟩ | ⟨rfl, hJx3, -⟩)
            · have T3 := hk3.tok hxn (TB.new w' x)
              have c0 := T3.c0
              gi_wp2
              simp only [Exit.noGoto]
              go_end0
              exact ⟨⟨_, rfl⟩, .inl ⟨pre ++ [x], hq.out.symm, hJ4⟩⟩
            · gi_wp2
              simp only [Exit.noGoto]
              go_end0
              exact ⟨⟨_, rfl⟩, .inr ⟨pre ++ [x], ⟨[], by rw [hq.out, List.append_nil]⟩, hJx3⟩⟩
          · have hq : Hid (pieceL s = (pre ++ [tkB k c (s.data.toList.drop (k + 1))]) ++ pcs (k + (tkB k c (s.data.toList.drop (k + 1))).t.length) (s.data.toList.drop (k + (tkB k c (s.data.toList.drop (k + 1))).t.length))) := by
              have := hx.out
              rw [hd, pcs_tok hk0, List.drop_drop] at this
              rw [tkB, if_neg hk0, tkOf_len, List.append_assoc, show k + (1 + runLen (kind c) (s.data.toList.drop (k + 1))) = k + 1 + runLen (kind c) (s.data.toList.drop (k + 1)) by omega]
              exact Lib.hid this
            have hz : (tkB k c (s.data.toList.drop (k + 1))).k ≠ 0 := by rw [tkB, if_neg hk0]; exact hk0
            have hlen : 1 ≤ (tkB k c (s.data.toList.drop (k + 1))).t.length ∧ k + (tkB k c (s.data.toList.drop (k + 1))).t.length ≤ s.size := by
              have := runLen_le (kind c) (s.data.toList.drop (k + 1))
              rw [List.length_drop, ← Lib.size_eq] at this
              rw [tkB, if_neg hk0, tkOf_len]; omega
            have hp : Hid (∀ y ∈ pre ++ [tkB k c (s.data.toList.drop (k + 1))], y.at' < k + (tkB k c (s.data.toList.drop (k + 1))).t.length) := Lib.hid fun y hy => by
              rw [List.mem_append, List.mem_singleton] at hy
              rcases hy with hy | rfl
              · have := hlt'.out y hy; omega
              · omega
            generalize tkB k c (s.data.toList.drop (k + 1)) = x at *
            have hz' : ((x.k : Int) == 0) = false := by simp; omega
            have hbn := bs_size x.t
            clear hd hx hlt' hbl hz hk0 hxk
            gi_wp2_with (refine ⟨trivial, ?_⟩; gi_at_call 89; refine (callsIn_wide.2 (Bg.out _)).mono ?_; rintro e w' ⟨rfl, hb⟩; have hJ3 := own_later hO (own_later hO hJ1 hb) ((Below.refl _ _).alloc (Nat.le_refl _) (.cells (tkC x) 99)); have hB3 := Boxed.alloc ((hb.block Bn (Boxed.lt hB1)).trans hB1) (.cells (tkC x) 99); obtain ⟨fn, tmps, assign, body, hy, hR⟩ := hY pre x _ hJ3 hplen; simp only [tkV, tkC] at hy)
            refine hR.mono ?_
            rintro e W3 (⟨rfl, hJ4, hk3, -⟩ | ⟨rfl, hJx3, -⟩)
            · have T3 := hk3.tok hxn (TB.new w' x)
              have B4 := hk3.box hB3
              have c0 := T3.c0
              have c2 := T3.c2
              gi_wp2
              go_roundw
              case rel => exact ⟨k + x.t.length, pre ++ [x], hlen.2, by go_num, hq, hp, hJ4, B4⟩
              case measure => simp [intOf]; omega
            · gi_wp2
              simp only [Exit.noGoto]
              go_end0
              exact ⟨⟨_, rfl⟩, .inr ⟨pre ++ [x], ⟨_, hq.out.symm⟩, hJx3⟩⟩
    · have b1 := Boxed.cell hB1
      have hdk : decide ((k : Int) < (s.size : Int)) = false := decide_eq_false (by omega)
      gi_wp2
      simp only [Exit.noGoto]
      go_end0
      exact ⟨⟨_, rfl⟩, .inl ⟨pre, by have := hx.out; rw [List.drop_of_length_le (by rw [← Lib.size_eq]; omega), pcs_nil, List.append_nil] at this; exact this.symm, hJ1⟩⟩
/-- **pieces$1's word.** -/
theorem pieces1_seq (n : Nat) (hn1 : 1 ≤ n) (Bn : Nat) (s : ByteArray) (hs : s.size ≤ 100000) (w : World) (hB : Boxed w Bn 9 (.string s)) :
    SeqO n 87 #[.pointer (some ⟨Bn, 0, none⟩)] (fun xs => xs = pieceL s) (fun pre => pre <+: pieceL s) 100001 w :=
  fun l J Jx W hW hJ hJx hY hJ0 => pieces1_in l Bn s J Jx n hn1 hs W W.heap.size hJ hY ((hW.block Bn (Boxed.lt hB)).trans hB) hJ0
end Go.Proofs.YtnhddnldebdmbaaDoor
/- The tokens of a text, told one by one: an iterator over an iterator. -/
namespace Go.Proofs.YtnhddnldebdmbaaDoor
open Go.RowKit Go.Shelf
set_option linter.unusedVariables false
attribute [local go_sem] Oper.semAt_some

theorem round_any {m m' l l2 : Nat} {f : FuncId} {tmps : Array Value} {assign body : Code} {w : World} {R : Ending → World → Prop}
    (h : RoundIn Fence.wide m Tryd.prog l f tmps assign body w R) : RoundIn (Fence.wide.inRound l2) m' Tryd.prog l f tmps assign body w R := ⟨h.1, fun c cs _ => h.2 c cs (room_wide _)⟩
theorem own_up {β : Type} {B B' : Nat} {J : β → World → Prop} (h : OwnFrom B J) (hB : B ≤ B') : OwnFrom B' J := fun s X Y row hs hg hr => h s X Y row hs hg (fun r e => ⟨by have := (hr r e).1; omega, (hr r e).2⟩)
theorem TB.kept {W W' : World} {row : Option Nat} {b : Nat} {x : Tk} (h : TB W b x) (hg : W.grownBy W' row) (hr : ∀ r, row = some r → ∃ o : Obj, W.heap[r]? = some o ∧ o.isCells = false) : TB W' b x := ⟨(grownBy_keeps_cells hg hr h.is rfl).trans h.is⟩
theorem boxed_kept {W W' : World} {row : Option Nat} {b : Nat} {t : TypeId} {v : Value} (h : Boxed W b t v) (hg : W.grownBy W' row) (hr : ∀ r, row = some r → ∃ o : Obj, W.heap[r]? = some o ∧ o.isCells = false) : Boxed W' b t v := (grownBy_keeps_cells hg hr h rfl).trans h

theorem toksOf_all {ps : List Tk} (h : ∀ y ∈ ps, y.k ≠ 0) : toksOf ps = ps := by
  unfold toksOf
  induction ps with
  | nil => rfl
  | cons a r ih => rw [List.takeWhile_cons_of_pos (by simpa using h a (by simp)), ih (fun y hy => h y (List.mem_cons_of_mem _ hy))]
theorem toksOf_stop {q r : List Tk} {x : Tk} (h : ∀ y ∈ q, y.k ≠ 0) (hx : x.k = 0) : toksOf (q ++ [x] ++ r) = q := by
  unfold toksOf
  rw [List.append_assoc, List.takeWhile_append_of_pos (fun y hy => by simpa using h y hy)]
  simp [hx]
theorem toksOf_pre {q r : List Tk} (h : ∀ y ∈ q, y.k ≠ 0) : q <+: toksOf (q ++ r) := by
  unfold toksOf
  rw [List.takeWhile_append_of_pos (fun y hy => by simpa using h y hy)]
  exact ⟨_, rfl⟩
theorem toksOf_prefix (ps : List Tk) : toksOf ps <+: ps := List.takeWhile_prefix _

abbrev tokL (s : ByteArray) : List Tk := toksOf (pieceL s)

set_option maxRecDepth 100000 in
set_option maxHeartbeats 4000000 in
theorem each1_in (l Bn : Nat) (s : ByteArray) (J Jx : List Tk → World → Prop) (n : Nat) (hn1 : 5 ≤ n) (hs : s.size ≤ 100000) (W : World) (B : Nat) (hBW : B ≤ W.heap.size) (hO : OwnFrom W.heap.size J) (hOx : OwnFrom W.heap.size Jx)
    (hY : ∀ pre (x : Tk) W, J pre W → pre.length < 100001 → YieldAt Fence.wide (n - 1) Tryd.prog l #[tkV x] W fun e W' =>
      (e = .returned (.bool true) ∧ J (pre ++ [x]) W' ∧ Kp pre x W W' ∧ KeepsFrom B W W') ∨ (e = .returned (.bool false) ∧ Jx (pre ++ [x]) W' ∧ KeepsFrom B W W'))
    (hB : Boxed W Bn 9 (.string s)) (hJ : J [] W) :
    CallsIn Fence.wide n Tryd.prog 85 #[.func (.yield l) #[] #[], .pointer (some ⟨Bn, 0, none⟩)] W fun e W' => (∃ v, e = .returned v) ∧
      ((∃ ys, ys = tokL s ∧ J ys W') ∨ (∃ pre, pre <+: tokL s ∧ Jx pre W')) := by
  obtain ⟨W1, hW1, Y1, B1, J1, s1⟩ : ∃ W1, W.alloc (.cells #[.func (.yield l) #[] #[]] 115) = W1 ∧ Boxed W1 W.heap.size 115 (.func (.yield l) #[] #[]) ∧ Boxed W1 Bn 9 (.string s) ∧ J [] W1 ∧ W1.heap.size = W.heap.size + 1 :=
    ⟨_, rfl, Boxed.new _ _ _, Boxed.alloc hB _, hO.alloc _ hJ, by simp⟩
  have b1 := Boxed.cell B1
  have hw0 : W.heap.size ≤ W1.heap.size := by omega
  have h1n : 1 ≤ n := by omega
  have h1n2 : 1 ≤ n - 1 - 1 := by omega
  refine callsIn_of_wp_marks Tryd.func85 rfl trivial ?_ rfl
  simp only [Tryd.ntmps85, List.size_toArray, List.length_cons, List.length_nil, Nat.reduceAdd, Nat.reduceSub, Array.replicate_succ, Array.replicate_zero, List.push_toArray, List.append_toArray, List.nil_append, List.cons_append]
  gi_wp2_with (refine ⟨trivial, ?_⟩; gi_at_call 86; refine (callsIn_wide.2 (pieces_any _ _)).mono ?_; rintro e w' ⟨rfl, rfl⟩)
  clear hW1 b1
  obtain ⟨W2, hW2, Y2, B2, P2, J2, s2⟩ : ∃ W2, W1.alloc (.cells #[.string s] 9) = W2 ∧ Boxed W2 W.heap.size 115 (.func (.yield l) #[] #[]) ∧ Boxed W2 Bn 9 (.string s) ∧ Boxed W2 W1.heap.size 9 (.string s) ∧ J [] W2 ∧ W2.heap.size = W1.heap.size + 1 :=
    ⟨_, rfl, Boxed.alloc Y1 _, Boxed.alloc B1 _, Boxed.new _ _ _, hO.alloc _ J1, by simp⟩
  try rw [hW2]
  clear Y1 B1 J1 hB hJ
  rw [s1] at P2
  have hs2 : W.heap.size ≤ W2.heap.size := by omega
  clear s1 s2 hw0
  refine rangeO (gf := 87) (lb := #[.pointer (some ⟨W.heap.size + 1, 0, none⟩)]) rfl (enters_of Tryd.func87 (by kernel_rfl) rfl)
    (pieces1_seq (n - 1) (by omega) (W.heap.size + 1) s hs W2 P2) (Below.refl _ _) rfl
    (fun pre V => (∀ y ∈ pre, y.k ≠ 0) ∧ J pre V ∧ Boxed V W.heap.size 115 (.func (.yield l) #[] #[]))
    (fun c pre V => c = .ret ∧ ((∃ q x, pre = q ++ [x] ∧ x.k = 0 ∧ (∀ y ∈ q, y.k ≠ 0) ∧ J q V) ∨ ((∀ y ∈ pre, y.k ≠ 0) ∧ Jx pre V)))
    (fun pre X Y row hs hg hr => ⟨hs.1, own_up hO hs2 pre X Y row hs.2.1 hg hr, boxed_kept hs.2.2 hg (fun r e => (hr r e).2)⟩)
    (fun c pre X Y row hs hg hr => ⟨hs.1, hs.2.imp (fun ⟨q, x, e, hx, hq, hj⟩ => ⟨q, x, e, hx, hq, own_up hO hs2 q X Y row hj hg hr⟩) (fun ⟨hq, hj⟩ => ⟨hq, own_up hOx hs2 pre X Y row hj hg hr⟩)⟩)
    ⟨by simp, J2, Y2⟩
    (fun x a' V => ∃ Bx, TB V Bx x ∧ a' = { tmps := #[.func (.yield l) #[] #[], .pointer (some ⟨Bn, 0, none⟩), .pointer (some ⟨W.heap.size, 0, none⟩), .pointer (some ⟨Bx, 0, none⟩), .string s, .func (.func 87) #[] #[.pointer (some ⟨W.heap.size + 1, 0, none⟩)], tkV x, undef, undef, undef, undef, undef, undef, undef, undef, undef], defers := [] })
    (fun x a' _ X Y row hs hg hr => hs.imp fun Bx h => ⟨h.1.kept hg (fun r e => (hr r e).2), h.2⟩)
    ?assign ?body ?done ?stop
  case assign =>
    intro l2 pre x V K hi hK
    gi_wp2
    exact hK _ _ ((KeepsOthers.alloc _ _).from _) (Kp.alloc _ _) ⟨hi.1, own_later hO hi.2.1 ((Below.refl _ _).alloc (Nat.le_refl _) _), Boxed.alloc hi.2.2 _⟩ ⟨_, TB.new V x, rfl⟩
  case body =>
    rintro l2 pre x a' V ⟨hq, hj, hy2⟩ ⟨Bx, hT, rfl⟩ hlen
    have c0 := hT.c0
    by_cases hx0 : x.k = 0
    · have t0 : ((x.k : Int) == 0) = true := by simp; omega
      have HX := Lib.hid hx0
      clear hx0
      gi_wp2
      refine ⟨fun _ h => (by cases h), ?_⟩
      gi_wp2
      exact ⟨KeepsFrom.refl _ _, rfl, .inl ⟨pre, x, rfl, HX.out, hq, hj⟩⟩
    · have t0 : ((x.k : Int) == 0) = false := by simp; omega
      have HX := Lib.hid hx0
      have c1 := hT.c1
      have c2 := hT.c2
      have c3 := hT.c3
      have cy := Boxed.cell hy2
      have hq2 : Hid (∀ y ∈ pre ++ [x], y.k ≠ 0) := Lib.hid fun y hy => by
        rw [List.mem_append, List.mem_singleton] at hy
        rcases hy with hy | rfl
        · exact hq y hy
        · exact HX.out
      obtain ⟨fn, tmps, assign, body, hy, hR⟩ := hY pre x V hj hlen
      simp only [tkV] at hy
      clear hx0 hq
      gi_wp2
      refine (round_any hR).mono ?_
      rintro e V' (⟨rfl, hj', hk', hf'⟩ | ⟨rfl, hx', hf'⟩)
      · gi_wp2
        exact ⟨keepsFrom_up hf' (by omega), hk', hq2.out, hj', hk'.fn hy2⟩
      · gi_wp2
        exact ⟨keepsFrom_up hf' (by omega), rfl, .inr ⟨hq2.out, hx'⟩⟩
  case done =>
    rintro D xs V hD rfl ⟨hq, hj, hy2⟩ hK
    gi_wp2
    refine ⟨by simp, .inl ⟨_, _, rfl, run_takeDeferred hK, ?_⟩⟩
    exact ⟨_, results_none rfl _ _ _, ⟨_, rfl⟩, .inl ⟨_, (toksOf_all hq).symm, hO.putObj _ hj (by omega) hK rfl⟩⟩
  case stop =>
    rintro D c pre V hD hpre ⟨rfl, hc⟩ hK
    gi_wp2
    refine ⟨by simp, .inl ⟨_, _, rfl, run_takeDeferred hK, ?_⟩⟩
    refine ⟨_, results_none rfl _ _ _, ⟨_, rfl⟩, ?_⟩
    obtain ⟨r, hr⟩ := hpre
    rcases hc with ⟨q, x, rfl, hx, hq, hj⟩ | ⟨hq, hj⟩
    · exact .inl ⟨q, by rw [tokL, ← hr, toksOf_stop hq hx], hO.putObj _ hj (by omega) hK rfl⟩
    · exact .inr ⟨pre, by rw [tokL, ← hr]; exact toksOf_pre hq, hOx.putObj _ hj (by omega) hK rfl⟩

/-- **Each$1's word.** -/
theorem each1_seq (n : Nat) (hn1 : 5 ≤ n) (Bn : Nat) (s : ByteArray) (hs : s.size ≤ 100000) (w : World) (hB : Boxed w Bn 9 (.string s)) :
    SeqO n 85 #[.pointer (some ⟨Bn, 0, none⟩)] (fun xs => xs = tokL s) (fun pre => pre <+: tokL s) 100001 w :=
  fun l J Jx W hW hJ hJx hY hJ0 => each1_in l Bn s J Jx n hn1 hs W W.heap.size (Nat.le_refl _) hJ hJx hY ((hW.block Bn (Boxed.lt hB)).trans hB) hJ0
end Go.Proofs.YtnhddnldebdmbaaDoor
/- Rows of tokens in memory; the law's own each. -/
namespace Go.Proofs.YtnhddnldebdmbaaDoor
open Go.RowKit Go.Shelf
set_option linter.unusedVariables false
attribute [local go_sem] Oper.semAt_some

/-- The cells of a row of tokens. -/
def tkCells (ts : List Tk) : List Value := ts.flatMap fun x => [.int .i64 (x.k : Int), .int .i64 (x.at' : Int), .string (bs x.t), .int .i64 (x.n : Int)]
theorem tkCells_snoc (ts : List Tk) (x : Tk) : tkCells (ts ++ [x]) = tkCells ts ++ [.int .i64 (x.k : Int), .int .i64 (x.at' : Int), .string (bs x.t), .int .i64 (x.n : Int)] := by simp [tkCells]
theorem tkCells_length (ts : List Tk) : (tkCells ts).length = 4 * ts.length := by
  induction ts with
  | nil => rfl
  | cons a r ih => simp only [tkCells, List.flatMap_cons, List.length_append, List.length_cons, List.length_nil] at *; omega
theorem tkCells_get (ts : List Tk) : ∀ (i : Nat) (x : Tk), ts[i]? = some x → (tkCells ts)[4 * i]? = some (.int .i64 (x.k : Int)) ∧ (tkCells ts)[4 * i + 1]? = some (.int .i64 (x.at' : Int)) ∧ (tkCells ts)[4 * i + 2]? = some (.string (bs x.t)) ∧ (tkCells ts)[4 * i + 3]? = some (.int .i64 (x.n : Int)) := by
  induction ts with
  | nil => intro i x h; simp at h
  | cons a r ih =>
    intro i x h
    cases i with
    | zero => simp at h; subst h; exact ⟨rfl, rfl, rfl, rfl⟩
    | succ i =>
      simp only [List.getElem?_cons_succ] at h
      have := ih i x h
      simp only [tkCells, List.flatMap_cons] at *
      rw [show 4 * (i + 1) = 4 * i + 4 by omega]
      simpa [List.getElem?_append_right, show 4 * i + 4 + 1 = 4 * i + 1 + 4 by omega, show 4 * i + 4 + 2 = 4 * i + 2 + 4 by omega, show 4 * i + 4 + 3 = 4 * i + 3 + 4 by omega] using this
theorem bs_inj {a b : List UInt8} (h : bs a = bs b) : a = b := by rw [← bs_toList a, h, bs_toList]
theorem tkC_inj {x y : Tk} (h : (tkC x).toList = (tkC y).toList) : x = y := by
  cases x
  cases y
  simp at h
  obtain ⟨h1, h2, h3, h4⟩ := h
  have h3 := bs_inj h3
  subst h3
  congr 1 <;> omega

theorem infoTok : (Tryd.prog.info? 99).map (fun i => (i.zero, i.size, i.bytes)) = some (some (.agg #[.int .i64 0, .int .i64 0, .string { data := #[] }, .int .i64 0]), 4, 40) := by kernel_rfl

/-- A slice that reads as these tokens. -/
def Toks (w : World) (v : Value) (ts : List Tk) : Prop :=
  (v = .slice none 0 0 ∧ ts = []) ∨ ∃ g cap, v = .slice (some ⟨g, 0, none⟩) ts.length cap ∧ ts.length ≤ cap ∧ cap ≤ maxLen ∧ g < w.heap.size ∧
    ∀ i x, ts[i]? = some x → w.cell? ⟨g, 4 * i, none⟩ = some (.int .i64 (x.k : Int)) ∧ w.cell? ⟨g, 4 * i + 1, none⟩ = some (.int .i64 (x.at' : Int)) ∧ w.cell? ⟨g, 4 * i + 2, none⟩ = some (.string (bs x.t)) ∧ w.cell? ⟨g, 4 * i + 3, none⟩ = some (.int .i64 (x.n : Int))
theorem Toks.below {w w' : World} {v : Value} {ts : List Tk} {B : Nat} (h : Toks w v ts) (hb : Below B w w') (hB : ∀ g, v.ownBlock = some g → g < B) : Toks w' v ts := by
  rcases h with ⟨rfl, rfl⟩ | ⟨g, cap, rfl, h1, h2, h3, h4⟩
  · exact .inl ⟨rfl, rfl⟩
  · have hg : g < B := hB g rfl
    have e : ∀ o, w'.cell? ⟨g, o, none⟩ = w.cell? ⟨g, o, none⟩ := fun o => hb.cell (p := ⟨g, o, none⟩) hg
    exact .inr ⟨g, cap, rfl, h1, h2, by have := hb.size; omega, fun i x hx => by rw [e, e, e, e]; exact h4 i x hx⟩
theorem Toks.later {w w' : World} {v : Value} {ts : List Tk} (h : Toks w v ts) (hb : Below w.heap.size w w') : Toks w' v ts := h.below hb fun g hg => by
  rcases h with ⟨rfl, _⟩ | ⟨g', cap, rfl, _, _, h3, _⟩
  · simp [Value.ownBlock] at hg
  · simp [Value.ownBlock] at hg; omega
theorem addr_add (g k : Nat) : (⟨g, 0, none⟩ : Addr).add k = ⟨g, k, none⟩ := by
  unfold Addr.add
  by_cases h : k = 0
  · simp [h]
  · simp [h]
theorem toks_of_row {w : World} {n0 : Nat} {v : Value} {ts : List Tk} (h : w.ownsRow n0 99 4 v ts.length (tkCells ts)) : Toks w v ts := by
  have hc := fun g (hg : v.ownBlock = some g) => h.cells hg
  rcases h.2 with ⟨hv, h0⟩ | ⟨g, cap, cur, hv, _, hgb, hle, hmax, _, _⟩
  · exact .inl ⟨hv, List.eq_nil_of_length_eq_zero h0⟩
  · subst hv
    refine .inr ⟨g, cap, rfl, hle, hmax, (Array.getElem?_eq_some_iff.1 hgb).1, fun i x hx => ?_⟩
    have := tkCells_get ts i x hx
    rw [← addr_add g (4 * i), ← addr_add g (4 * i + 1), ← addr_add g (4 * i + 2), ← addr_add g (4 * i + 3)]
    exact ⟨hc g rfl _ _ this.1, hc g rfl _ _ this.2.1, hc g rfl _ _ this.2.2.1, hc g rfl _ _ this.2.2.2⟩

theorem run_eql_func_nil (fn : Fn) (a b : Array Value) (w : World) : (binOp .eql 113 (.func fn a b) .nilFunc).run Tryd.prog w = .ok (.bool false) w := by
  have h : ∀ d, (Op.equalIn (d + 1) 113 (.func fn a b) .nilFunc).run Tryd.prog w = .ok false w := fun d => by simp [Op.equalIn, run_underlying Tryd.underlying113]
  simp only [binOp]
  simp [Op.equal, Op.maxDepth, h 9999]

theorem four_new (V : World) (x : Tk) : ∀ j u, ([.int .i64 (x.k : Int), .int .i64 (x.at' : Int), .string (bs x.t), .int .i64 (x.n : Int)] : List Value)[j]? = some u → (V.alloc (.cells #[.int .i64 (x.k : Int), .int .i64 (x.at' : Int), .string (bs x.t), .int .i64 (x.n : Int)] 99)).cell? ((⟨V.heap.size, 0, none⟩ : Addr).add j) = some u := by
  intro j u hj
  rw [addr_add, cell_of_row _ _ j _ _ _ (TB.new V x).is]
  simpa using hj

end Go.Proofs.YtnhddnldebdmbaaDoor
/- The document's own answer: one token. -/
namespace Go.Proofs.YtnhddnldebdmbaaDoor
open Go.RowKit
set_option linter.unusedVariables false

/-- One token, as the document's own answer tells it. -/
def oneT (i : Nat) (c : UInt8) (r : List UInt8) : Tk := if kind c = 0 then ⟨0, 0, [], 0⟩ else tkOf i c r
theorem kind_ltr {c : UInt8} (h : ltr c = true) : kind c = 1 := by rw [kind, if_pos h]
theorem kind_dgt {c : UInt8} (h : ltr c = false) (h2 : dgt c = true) : kind c = 2 := by rw [kind, if_neg (by rw [h]; simp), if_pos h2]
theorem kind_eq {c : UInt8} (h : ltr c = false) (h2 : dgt c = false) (h3 : c.toNat = 61) : kind c = 3 := by rw [kind, if_neg (by rw [h]; simp), if_neg (by rw [h2]; simp), if_pos h3]
theorem kind_lf {c : UInt8} (h : ltr c = false) (h2 : dgt c = false) (h3 : c.toNat = 10) : kind c = 4 := by rw [kind, if_neg (by rw [h]; simp), if_neg (by rw [h2]; simp), if_neg (by omega), if_pos h3]
theorem kind_no {c : UInt8} (h : ltr c = false) (h2 : dgt c = false) (h3 : c.toNat ≠ 61) (h4 : c.toNat ≠ 10) : kind c = 0 := by rw [kind, if_neg (by rw [h]; simp), if_neg (by rw [h2]; simp), if_neg h3, if_neg h4]
theorem runLen_no {k : Nat} (h : ∀ c, goes k c = false) : ∀ l, runLen k l = 0
  | [] => rfl
  | c :: r => by rw [runLen, if_neg (by rw [h c]; simp)]

theorem slice_run (s : ByteArray) (i j : Nat) (h1 : i ≤ j) (h2 : j ≤ s.size) (w : World) : (Instr.slice 9 (.string s) (some (.int .i64 (i : Int))) (some (.int .i64 (j : Int))) none).run Tryd.prog w = .ok (.string (s.extract i j)) w := by
  have hij : (i : Int) ≤ (j : Int) := by omega
  have hjs : (j : Int) ≤ (s.size : Int) := by omega
  go_simp

theorem TB.kind' {W : World} {b k k' i n : Nat} {t : List UInt8} (h : TB W b ⟨k, i, t, n⟩) : TB (W.setCell ⟨b, 0, none⟩ (.int .i64 (k' : Int))) b ⟨k', i, t, n⟩ :=
  ⟨heap_setCell_same _ b 0 _ _ (.int .i64 (k' : Int)) h.is⟩
theorem extract_get (s : ByteArray) (i j m : Nat) (hi : i ≤ m) (hm : m < j) (hj : j ≤ s.size) (t : List UInt8) (h : s.extract i j = bs t) : ∃ h1 : m < s.size, ∃ h2 : m - i < t.length, t[m - i] = s[m] := by
  have e := congrArg (fun b : ByteArray => b.data.toList) h
  simp only [bs_toList, Lib.extract_data] at e
  have hs := Lib.size_eq s
  have hl : t.length = j - i := by rw [← e, List.length_take, List.length_drop]; omega
  refine ⟨by omega, by omega, ?_⟩
  have h2 : t[m - i]? = some s[m] := by
    rw [← e, List.getElem?_take_of_lt (by omega), List.getElem?_drop, show i + (m - i) = m by omega]
    rw [List.getElem?_eq_getElem (by omega)]
    rfl
  rw [List.getElem?_eq_getElem (by omega)] at h2
  exact Option.some.inj h2

set_option maxRecDepth 100000 in
set_option maxHeartbeats 4000000 in
theorem one_any (s : ByteArray) (i : Nat) (w : World) (hi : i < s.size) (hs : s.size ≤ 9223372036854775807) : Calls Tryd.prog 69 #[.string s, .int .i64 (i : Int)] w fun e w' => e = .returned (tkV (oneT i s[i] (s.data.toList.drop (i + 1)))) ∧ Below w.heap.size w w' := by
  obtain ⟨c, hc⟩ : ∃ c, s[i] = c := ⟨_, rfl⟩
  rw [hc]
  obtain ⟨W1, hW1, T4, T5, B1⟩ := two_toks w 0 i
  have HW := Lib.hid hW1
  rw [show ((0 : Nat) : Int) = 0 from rfl] at HW
  have C := Lib.hid hc
  have hc256 := c.toNat_lt
  have L := Lib.hid (fun w => rletter_any c w)
  have D := Lib.hid (fun w => rdigit_any c w)
  clear hW1
  have f5 := T5.frozen
  have c0 := T5.c0
  have c1 := T5.c1
  have c2 := T5.c2
  have c3 := T5.c3
  have g4 := T4.frozen
  have q0 := T4.c0
  have q1 := T4.c1
  have q2 := T4.c2
  have q3 := T4.c3
  cases hl : ltr c
  · cases hd : dgt c
    · by_cases h61 : c.toNat = 61
      · have hk : oneT i c (s.data.toList.drop (i + 1)) = ⟨3, i, [c], 0⟩ := by rw [oneT, kind_eq hl hd h61, if_neg (by omega), tkOf, kind_eq hl hd h61, runLen_no goes_3]; simp
        rw [hk]
        rw [hl] at L
        rw [hd] at D
        have t1 : ((c.toNat : Int) == 61) = true := by simp; omega
        have hx : s.extract i (i + 1) = bs [c] := by rw [extract_tok s i (i + 1) hi (Nat.le_refl _), C.out]; simp
        have hsl := fun w => slice_run s i (i + 1) (by omega) (by omega) w
        rw [hx, show ((i + 1 : Nat) : Int) = (i : Int) + 1 from rfl] at hsl
        have T61 := Lib.hid h61
        clear hk hl hd h61
        go_enter Tryd.func69, Tryd.ntmps69
        go_upto_region 2 with (fail)
        rw [HW.out]
        go_wp2_with (first
          | (go_at_call 77; (with_reducible refine (L.out _).mono ?_); rintro e w' ⟨rfl, rfl⟩)
          | (go_at_call 78; (with_reducible refine (D.out _).mono ?_); rintro e w' ⟨rfl, rfl⟩))
        have R := ((T4.other ⟨w.heap.size + 1, 0, none⟩ (.int .i64 3) (by simp)).other ⟨w.heap.size + 1, 2, none⟩ (.string (bs [c])) (by simp)).whole (y := ⟨3, i, [c], 0⟩)
        exact bodyPost_ret (v := tkV ⟨3, i, [c], 0⟩) (results_tok rfl _ _ _ _ rfl R) rfl ⟨rfl, below_whole ((B1.setCell (p := ⟨w.heap.size + 1, 0, none⟩) (Nat.le_succ _) _).setCell (p := ⟨w.heap.size + 1, 2, none⟩) (Nat.le_succ _) _) (Nat.le_refl _) _ _ _ _⟩
      · by_cases h10 : c.toNat = 10
        · have hk : oneT i c (s.data.toList.drop (i + 1)) = ⟨4, i, [c], 0⟩ := by rw [oneT, kind_lf hl hd h10, if_neg (by omega), tkOf, kind_lf hl hd h10, runLen_no goes_4]; simp
          rw [hk]
          rw [hl] at L
          rw [hd] at D
          have t1 : ((c.toNat : Int) == 10) = true := by simp; omega
          have t2 : ((c.toNat : Int) == 61) = false := by simp; omega
          have T10 := Lib.hid h61
          clear h61
          have hx : s.extract i (i + 1) = bs [c] := by rw [extract_tok s i (i + 1) hi (Nat.le_refl _), C.out]; simp
          have hsl := fun w => slice_run s i (i + 1) (by omega) (by omega) w
          rw [hx, show ((i + 1 : Nat) : Int) = (i : Int) + 1 from rfl] at hsl
          have T61 := Lib.hid h10
          clear hk hl hd h10
          go_enter Tryd.func69, Tryd.ntmps69
          go_upto_region 2 with (fail)
          rw [HW.out]
          go_wp2_with (first
            | (go_at_call 77; (with_reducible refine (L.out _).mono ?_); rintro e w' ⟨rfl, rfl⟩)
            | (go_at_call 78; (with_reducible refine (D.out _).mono ?_); rintro e w' ⟨rfl, rfl⟩))
          have R := ((T4.other ⟨w.heap.size + 1, 0, none⟩ (.int .i64 4) (by simp)).other ⟨w.heap.size + 1, 2, none⟩ (.string (bs [c])) (by simp)).whole (y := ⟨4, i, [c], 0⟩)
          exact bodyPost_ret (v := tkV ⟨4, i, [c], 0⟩) (results_tok rfl _ _ _ _ rfl R) rfl ⟨rfl, below_whole ((B1.setCell (p := ⟨w.heap.size + 1, 0, none⟩) (Nat.le_succ _) _).setCell (p := ⟨w.heap.size + 1, 2, none⟩) (Nat.le_succ _) _) (Nat.le_refl _) _ _ _ _⟩
        · have hk : oneT i c (s.data.toList.drop (i + 1)) = ⟨0, 0, [], 0⟩ := by rw [oneT, kind_no hl hd h61 h10, if_pos rfl]
          rw [hk]
          rw [hl] at L
          rw [hd] at D
          have t1 : ((c.toNat : Int) == 61) = false := by simp; omega
          have t2 : ((c.toNat : Int) == 10) = false := by simp; omega
          clear hk hl hd h61 h10
          go_enter Tryd.func69, Tryd.ntmps69
          go_upto_region 2 with (fail)
          rw [HW.out]
          go_wp2_with (first
          | (go_at_call 77; (with_reducible refine (L.out _).mono ?_); rintro e w' ⟨rfl, rfl⟩)
          | (go_at_call 78; (with_reducible refine (D.out _).mono ?_); rintro e w' ⟨rfl, rfl⟩))
          have R := T4.whole (y := ⟨0, 0, [], 0⟩)
          exact bodyPost_ret (v := tkV ⟨0, 0, [], 0⟩) (results_tok rfl _ _ _ _ rfl R) rfl ⟨rfl, below_whole B1 (Nat.le_refl _) _ _ _ _⟩
    · have hkc := kind_dgt hl hd
      have hk : oneT i c (s.data.toList.drop (i + 1)) = tkOf i c (s.data.toList.drop (i + 1)) := by rw [oneT, hkc, if_neg (by omega)]
      rw [hk]
      have hdig := tkOf_digits (i := i) (r := s.data.toList.drop (i + 1)) hkc
      generalize hx : tkOf i c (s.data.toList.drop (i + 1)) = x at *
      have hxl : x.k = 2 ∧ x.at' = i ∧ x.t = c :: (s.data.toList.drop (i + 1)).take (runLen 2 (s.data.toList.drop (i + 1))) ∧ x.n = numOf x.t := by
        subst hx
        refine ⟨hkc, rfl, by simp only [tkOf, hkc], by simp [tkOf, hkc]⟩
      have HX := Lib.hid hxl
      have HG := Lib.hid hdig
      rw [hl] at L
      rw [hd] at D
      clear hk hx hxl hkc hl hd hdig
      go_enter Tryd.func69, Tryd.ntmps69
      go_upto_region 2 with (fail)
      rw [HW.out]
      go_wp2_with (first
        | (go_at_call 77; (with_reducible refine (L.out _).mono ?_); rintro e w' ⟨rfl, rfl⟩)
        | (go_at_call 78; (with_reducible refine (D.out _).mono ?_); rintro e w' ⟨rfl, rfl⟩))
      obtain ⟨W2, hW2, T4', T5', B2⟩ : ∃ W2, W1.setCell ⟨w.heap.size + 1, 0, none⟩ (.int .i64 2) = W2 ∧ TB W2 w.heap.size ⟨0, 0, [], 0⟩ ∧ TB W2 (w.heap.size + 1) ⟨2, i, [], 0⟩ ∧ Below w.heap.size w W2 :=
        ⟨_, rfl, T4.other _ _ (by simp), T5.kind' (k' := 2), B1.setCell (p := ⟨w.heap.size + 1, 0, none⟩) (Nat.le_succ _) _⟩
      rw [hW2]
      clear hW2 T4 T5 B1 f5 c0 c1 c2 c3 g4 q0 q1 q2 q3 L D HW
      have T4 := T4'
      have T5 := T5'
      clear T4' T5'
      go_loop [6] (fun e => ∃ j : Nat, i + 1 ≤ j ∧ j ≤ s.size ∧ e = .int .i64 j ∧ Hid (runLen 2 (s.data.toList.drop (i + 1)) = (j - (i + 1)) + runLen 2 (s.data.toList.drop j))) (fun e => s.size - (intOf e).toNat)
      case atStart => exact ⟨i + 1, Nat.le_refl _, by omega, by go_num, Lib.hid (by omega)⟩
      case round =>
        obtain ⟨j, hj1, hj2, rfl, hr⟩ := hrel
        by_cases hlt : j < s.size
        · obtain ⟨d, hd⟩ : ∃ d, s[j] = d := ⟨_, rfl⟩
          have hr2 := hr.out
          rw [drop_get s j hlt, hd, runLen] at hr2
          have hdk : decide ((j : Int) < (s.size : Int)) = true := decide_eq_true (by omega)
          have hd256 := d.toNat_lt
          have D := Lib.hid (fun w => rdigit_any d w)
          clear hr
          cases hd2 : dgt d
          · have hg : goes 2 d = false := by rw [goes_2, hd2]
            rw [hg, if_neg (by simp)] at hr2
            have HD := Lib.hid hr2
            rw [hd2] at D
            clear hr2 hg hd2
            go_wp2_with (go_at_call 78; (with_reducible refine (D.out _).mono ?_); rintro e w' ⟨rfl, rfl⟩)
            have hx : s.extract i j = bs x.t := by rw [extract_tok s i j hi hj1, C.out, HX.out.2.2.1]; congr 3; have := HD.out; omega
            have hsl := fun w => slice_run s i j (by omega) hj2 w
            rw [hx] at hsl
            have HSL := Lib.hid hsl
            clear HD hdk hsl
            go_loopw [10] (fun a wr => ∃ m : Nat, i ≤ m ∧ m ≤ j ∧ a = .int .i64 m ∧ TB wr w.heap.size ⟨0, 0, [], 0⟩ ∧ TB wr (w.heap.size + 1) ⟨2, i, [], numOf (x.t.take (m - i))⟩ ∧ Below w.heap.size w wr) (fun a _ => j - (intOf a).toNat)
            case atStart => exact ⟨i, Nat.le_refl _, by omega, rfl, T4, by rw [Nat.sub_self]; exact T5, B2⟩
            case round =>
              clear T4 T5 B2
              obtain ⟨m, hm1, hm2, rfl, T4, T5, B2⟩ := hrel
              by_cases hmj : m < j
              · obtain ⟨g1, g2, g3⟩ := extract_get s i j m hm1 hmj hj2 x.t hx
                have hdg := HG.out x.t[m - i] (List.getElem_mem g2)
                have hsn := take_snoc x.t (m - i) g2
                rw [g3] at hdg hsn
                generalize hu : s[m] = u at *
                have hub : 48 ≤ u.toNat ∧ u.toNat ≤ 57 := by simpa [dgt] using hdg
                obtain ⟨hu1, hu2⟩ := hub
                have hN := numOf_snoc (x.t.take (m - i)) u
                rw [← hsn, show m - i + 1 = m + 1 - i by omega] at hN
                have hNle := numOf_le (x.t.take (m - i))
                have H1 := Lib.hid hN
                clear hN hsn hdg g3 g2 hx
                generalize numOf (x.t.take (m - i)) = y at *
                have c3 := T5.c3
                have f5 := T5.frozen
                have hmd : decide ((m : Int) < (j : Int)) = true := decide_eq_true (by omega)
                go_wp2
                go_region
                all_goals go_wp2
                have he : min ((y : Int) * 10 + ((u.toNat : Int) - 48)) 1099511627776 = ((numOf (x.t.take (m + 1 - i)) : Nat) : Int) := by rw [H1.out]; omega
                rw [he]
                exact ⟨⟨m + 1, by omega, by omega, by go_num, ⟨(T4.other ⟨w.heap.size + 1, 3, none⟩ _ (by simp)).is⟩, ⟨(T5.num (n' := numOf (x.t.take (m + 1 - i)))).is⟩, (B2.setCell (p := ⟨w.heap.size + 1, 3, none⟩) (Nat.le_succ _) _).drew⟩, by simp [intOf]; omega⟩
              · obtain rfl : m = j := by omega
                have hmd : decide ((m : Int) < (m : Int)) = false := decide_eq_false (by omega)
                have hfull : x.t.take (m - i) = x.t := by
                  refine List.take_of_length_le ?_
                  have e := congrArg ByteArray.size hx
                  rw [bs_size] at e
                  rw [← e]; simp; omega
                rw [hfull] at T5
                have hsl := HSL.out
                have c0 := T5.c0
                have c1 := T5.c1
                have c2 := T5.c2
                have c3 := T5.c3
                have f5 := T5.frozen
                have g4 := T4.frozen
                have q0 := T4.c0
                have q1 := T4.c1
                have q2 := T4.c2
                have q3 := T4.c3
                clear hfull hx
                go_wp2
                have R := (T4.other ⟨w.heap.size + 1, 2, none⟩ (.string (bs x.t)) (by simp)).whole (y := ⟨2, i, x.t, numOf x.t⟩)
                exact bodyPost_ret (v := tkV ⟨2, i, x.t, numOf x.t⟩) (results_tok rfl _ _ _ _ rfl R) rfl ⟨congrArg Ending.returned (tk_eq HX.out.1 HX.out.2.1 HX.out.2.2.2), below_whole (B2.setCell (p := ⟨w.heap.size + 1, 2, none⟩) (Nat.le_succ _) _) (Nat.le_refl _) _ _ _ _⟩
          · have hg : goes 2 d = true := by rw [goes_2, hd2]
            rw [hg, if_pos rfl] at hr2
            have HD := Lib.hid hr2
            rw [hd2] at D
            clear hr2 hg hd2
            go_wp2_with (go_at_call 78; (with_reducible refine (D.out _).mono ?_); rintro e w' ⟨rfl, rfl⟩)
            go_round
            case rel => exact ⟨j + 1, by omega, by omega, by go_num, Lib.hid (by have := HD.out; omega)⟩
            case measure => simp [intOf]; omega
        · have HD : Hid (runLen 2 (s.data.toList.drop (i + 1)) = j - (i + 1) + 0) := by
            have hr2 := hr.out
            rw [show s.data.toList.drop j = [] from List.drop_of_length_le (by rw [← Lib.size_eq]; omega)] at hr2
            exact Lib.hid hr2
          have hdk : decide ((j : Int) < (s.size : Int)) = false := decide_eq_false (by omega)
          clear hr
          go_wp2
          have hx : s.extract i j = bs x.t := by rw [extract_tok s i j hi hj1, C.out, HX.out.2.2.1]; congr 3; have := HD.out; omega
          have hsl := fun w => slice_run s i j (by omega) hj2 w
          rw [hx] at hsl
          have HSL := Lib.hid hsl
          clear HD hdk hsl
          go_loopw [10] (fun a wr => ∃ m : Nat, i ≤ m ∧ m ≤ j ∧ a = .int .i64 m ∧ TB wr w.heap.size ⟨0, 0, [], 0⟩ ∧ TB wr (w.heap.size + 1) ⟨2, i, [], numOf (x.t.take (m - i))⟩ ∧ Below w.heap.size w wr) (fun a _ => j - (intOf a).toNat)
          case atStart => exact ⟨i, Nat.le_refl _, by omega, rfl, T4, by rw [Nat.sub_self]; exact T5, B2⟩
          case round =>
            clear T4 T5 B2
            obtain ⟨m, hm1, hm2, rfl, T4, T5, B2⟩ := hrel
            by_cases hmj : m < j
            · obtain ⟨g1, g2, g3⟩ := extract_get s i j m hm1 hmj hj2 x.t hx
              have hdg := HG.out x.t[m - i] (List.getElem_mem g2)
              have hsn := take_snoc x.t (m - i) g2
              rw [g3] at hdg hsn
              generalize hu : s[m] = u at *
              have hub : 48 ≤ u.toNat ∧ u.toNat ≤ 57 := by simpa [dgt] using hdg
              obtain ⟨hu1, hu2⟩ := hub
              have hN := numOf_snoc (x.t.take (m - i)) u
              rw [← hsn, show m - i + 1 = m + 1 - i by omega] at hN
              have hNle := numOf_le (x.t.take (m - i))
              have H1 := Lib.hid hN
              clear hN hsn hdg g3 g2 hx
              generalize numOf (x.t.take (m - i)) = y at *
              have c3 := T5.c3
              have f5 := T5.frozen
              have hmd : decide ((m : Int) < (j : Int)) = true := decide_eq_true (by omega)
              go_wp2
              go_region
              all_goals go_wp2
              have he : min ((y : Int) * 10 + ((u.toNat : Int) - 48)) 1099511627776 = ((numOf (x.t.take (m + 1 - i)) : Nat) : Int) := by rw [H1.out]; omega
              rw [he]
              exact ⟨⟨m + 1, by omega, by omega, by go_num, ⟨(T4.other ⟨w.heap.size + 1, 3, none⟩ _ (by simp)).is⟩, ⟨(T5.num (n' := numOf (x.t.take (m + 1 - i)))).is⟩, (B2.setCell (p := ⟨w.heap.size + 1, 3, none⟩) (Nat.le_succ _) _).drew⟩, by simp [intOf]; omega⟩
            · obtain rfl : m = j := by omega
              have hmd : decide ((m : Int) < (m : Int)) = false := decide_eq_false (by omega)
              have hfull : x.t.take (m - i) = x.t := by
                refine List.take_of_length_le ?_
                have e := congrArg ByteArray.size hx
                rw [bs_size] at e
                rw [← e]; simp; omega
              rw [hfull] at T5
              have hsl := HSL.out
              have c0 := T5.c0
              have c1 := T5.c1
              have c2 := T5.c2
              have c3 := T5.c3
              have f5 := T5.frozen
              have g4 := T4.frozen
              have q0 := T4.c0
              have q1 := T4.c1
              have q2 := T4.c2
              have q3 := T4.c3
              clear hfull hx
              go_wp2
              have R := (T4.other ⟨w.heap.size + 1, 2, none⟩ (.string (bs x.t)) (by simp)).whole (y := ⟨2, i, x.t, numOf x.t⟩)
              exact bodyPost_ret (v := tkV ⟨2, i, x.t, numOf x.t⟩) (results_tok rfl _ _ _ _ rfl R) rfl ⟨congrArg Ending.returned (tk_eq HX.out.1 HX.out.2.1 HX.out.2.2.2), below_whole (B2.setCell (p := ⟨w.heap.size + 1, 2, none⟩) (Nat.le_succ _) _) (Nat.le_refl _) _ _ _ _⟩
  · have hkc := kind_ltr hl
    have hk : oneT i c (s.data.toList.drop (i + 1)) = tkOf i c (s.data.toList.drop (i + 1)) := by rw [oneT, hkc, if_neg (by omega)]
    rw [hk]
    generalize hx : tkOf i c (s.data.toList.drop (i + 1)) = x
    have hxl : x.k = 1 ∧ x.at' = i ∧ x.t = c :: (s.data.toList.drop (i + 1)).take (runLen 1 (s.data.toList.drop (i + 1))) ∧ x.n = 0 := by
      subst hx
      refine ⟨hkc, rfl, by simp only [tkOf, hkc], by simp [tkOf, hkc]⟩
    have HX := Lib.hid hxl
    rw [hl] at L
    clear hk hx hxl hkc hl
    generalize dgt c = dc at *
    go_enter Tryd.func69, Tryd.ntmps69
    go_upto_region 2 with (fail)
    rw [HW.out]
    go_wp2_with (first
      | (go_at_call 77; (with_reducible refine (L.out _).mono ?_); rintro e w' ⟨rfl, rfl⟩)
      | (go_at_call 78; (with_reducible refine (D.out _).mono ?_); rintro e w' ⟨rfl, rfl⟩))
    obtain ⟨W2, hW2, T4', T5', B2⟩ : ∃ W2, W1.setCell ⟨w.heap.size + 1, 0, none⟩ (.int .i64 1) = W2 ∧ TB W2 w.heap.size ⟨0, 0, [], 0⟩ ∧ TB W2 (w.heap.size + 1) ⟨1, i, [], 0⟩ ∧ Below w.heap.size w W2 :=
      ⟨_, rfl, T4.other _ _ (by simp), T5.kind' (k' := 1), B1.setCell (p := ⟨w.heap.size + 1, 0, none⟩) (Nat.le_succ _) _⟩
    rw [hW2]
    clear hW2 T4 T5 B1 f5 c0 c1 c2 c3 g4 q0 q1 q2 q3 L D HW
    have T4 := T4'
    have T5 := T5'
    clear T4' T5'
    go_loop [6] (fun e => ∃ j : Nat, i + 1 ≤ j ∧ j ≤ s.size ∧ e = .int .i64 j ∧ Hid (runLen 1 (s.data.toList.drop (i + 1)) = (j - (i + 1)) + runLen 1 (s.data.toList.drop j))) (fun e => s.size - (intOf e).toNat)
    case atStart => exact ⟨i + 1, Nat.le_refl _, by omega, by go_num, Lib.hid (by omega)⟩
    case round =>
      obtain ⟨j, hj1, hj2, rfl, hr⟩ := hrel
      by_cases hlt : j < s.size
      · obtain ⟨d, hd⟩ : ∃ d, s[j] = d := ⟨_, rfl⟩
        have hr2 := hr.out
        rw [drop_get s j hlt, hd, runLen] at hr2
        have hdk : decide ((j : Int) < (s.size : Int)) = true := decide_eq_true (by omega)
        have hd256 := d.toNat_lt
        have L := Lib.hid (fun w => rletter_any d w)
        have D := Lib.hid (fun w => rdigit_any d w)
        clear hr
        cases hl : ltr d
        · cases hd2 : dgt d
          · by_cases h46 : d.toNat = 46
            · have hg : goes 1 d = true := by simp [goes, hl, hd2, h46]
              rw [hg, if_pos rfl] at hr2
              have HD := Lib.hid hr2
              rw [hl] at L
              rw [hd2] at D
              have t46 : ((d.toNat : Int) == 46) = true := by simp; omega
              have T46 := Lib.hid h46
              clear hr2 hg hl hd2 h46
              go_wp2_with (first
                | (go_at_call 77; (with_reducible refine (L.out _).mono ?_); rintro e w' ⟨rfl, rfl⟩)
                | (go_at_call 78; (with_reducible refine (D.out _).mono ?_); rintro e w' ⟨rfl, rfl⟩))
              go_round
              case rel => exact ⟨j + 1, by omega, by omega, by go_num, Lib.hid (by have := HD.out; omega)⟩
              case measure => simp [intOf]; omega
            · by_cases h45 : d.toNat = 45
              · have hg : goes 1 d = true := by simp [goes, hl, hd2, h45]
                rw [hg, if_pos rfl] at hr2
                have HD := Lib.hid hr2
                rw [hl] at L
                rw [hd2] at D
                have t46 : ((d.toNat : Int) == 46) = false := by simp; omega
                have t45 : ((d.toNat : Int) == 45) = true := by simp; omega
                have T45 := Lib.hid h45
                clear hr2 hg hl hd2 h46 h45
                go_wp2_with (first
                  | (go_at_call 77; (with_reducible refine (L.out _).mono ?_); rintro e w' ⟨rfl, rfl⟩)
                  | (go_at_call 78; (with_reducible refine (D.out _).mono ?_); rintro e w' ⟨rfl, rfl⟩))
                go_round
                case rel => exact ⟨j + 1, by omega, by omega, by go_num, Lib.hid (by have := HD.out; omega)⟩
                case measure => simp [intOf]; omega
              · have hg : goes 1 d = false := by simp [goes, hl, hd2, h45, h46]
                rw [hg, if_neg (by simp)] at hr2
                have HD := Lib.hid hr2
                rw [hl] at L
                rw [hd2] at D
                have t46 : ((d.toNat : Int) == 46) = false := by simp; omega
                have t45 : ((d.toNat : Int) == 45) = false := by simp; omega
                clear hr2 hg hl hd2 h46 h45
                have hx : s.extract i j = bs x.t := by rw [extract_tok s i j hi hj1, C.out, HX.out.2.2.1]; congr 3; have := HD.out; omega
                have hsl := fun w => slice_run s i j (by omega) hj2 w
                rw [hx] at hsl
                have c1 := T5.c1
                have c2 := T5.c2
                have c3 := T5.c3
                have f5 := T5.frozen
                have g4 := T4.frozen
                have q0 := T4.c0
                have q1 := T4.c1
                have q2 := T4.c2
                have q3 := T4.c3
                have c0 := T5.c0
                clear HD
                go_wp2_with (first
                  | (go_at_call 77; (with_reducible refine (L.out _).mono ?_); rintro e w' ⟨rfl, rfl⟩)
                  | (go_at_call 78; (with_reducible refine (D.out _).mono ?_); rintro e w' ⟨rfl, rfl⟩))
                have R := (T4.other ⟨w.heap.size + 1, 2, none⟩ (.string (bs x.t)) (by simp)).whole (y := ⟨1, i, x.t, 0⟩)
                exact bodyPost_ret (v := tkV ⟨1, i, x.t, 0⟩) (results_tok rfl _ _ _ _ rfl R) rfl ⟨congrArg Ending.returned (tk_eq HX.out.1 HX.out.2.1 HX.out.2.2.2), below_whole (B2.setCell (p := ⟨w.heap.size + 1, 2, none⟩) (Nat.le_succ _) _) (Nat.le_refl _) _ _ _ _⟩
          · have hg : goes 1 d = true := by simp [goes, hl, hd2]
            rw [hg, if_pos rfl] at hr2
            have HD := Lib.hid hr2
            rw [hl] at L
            rw [hd2] at D
            clear hr2 hg hl hd2
            go_wp2_with (first
              | (go_at_call 77; (with_reducible refine (L.out _).mono ?_); rintro e w' ⟨rfl, rfl⟩)
              | (go_at_call 78; (with_reducible refine (D.out _).mono ?_); rintro e w' ⟨rfl, rfl⟩))
            go_round
            case rel => exact ⟨j + 1, by omega, by omega, by go_num, Lib.hid (by have := HD.out; omega)⟩
            case measure => simp [intOf]; omega
        · have hg : goes 1 d = true := by simp [goes, hl]
          rw [hg, if_pos rfl] at hr2
          have HD := Lib.hid hr2
          rw [hl] at L
          clear hr2 hg hl
          go_wp2_with (first
            | (go_at_call 77; (with_reducible refine (L.out _).mono ?_); rintro e w' ⟨rfl, rfl⟩)
            | (go_at_call 78; (with_reducible refine (D.out _).mono ?_); rintro e w' ⟨rfl, rfl⟩))
          go_round
          case rel => exact ⟨j + 1, by omega, by omega, by go_num, Lib.hid (by have := HD.out; omega)⟩
          case measure => simp [intOf]; omega
      · have HD : Hid (runLen 1 (s.data.toList.drop (i + 1)) = j - (i + 1) + 0) := by
          have hr2 := hr.out
          rw [show s.data.toList.drop j = [] from List.drop_of_length_le (by rw [← Lib.size_eq]; omega)] at hr2
          exact Lib.hid hr2
        have hdk : decide ((j : Int) < (s.size : Int)) = false := decide_eq_false (by omega)
        clear hr
        have hx : s.extract i j = bs x.t := by rw [extract_tok s i j hi hj1, C.out, HX.out.2.2.1]; congr 3; have := HD.out; omega
        have hsl := fun w => slice_run s i j (by omega) hj2 w
        rw [hx] at hsl
        have c1 := T5.c1
        have c2 := T5.c2
        have c3 := T5.c3
        have f5 := T5.frozen
        have g4 := T4.frozen
        have q0 := T4.c0
        have q1 := T4.c1
        have q2 := T4.c2
        have q3 := T4.c3
        have c0 := T5.c0
        clear HD
        go_wp2
        have R := (T4.other ⟨w.heap.size + 1, 2, none⟩ (.string (bs x.t)) (by simp)).whole (y := ⟨1, i, x.t, 0⟩)
        exact bodyPost_ret (v := tkV ⟨1, i, x.t, 0⟩) (results_tok rfl _ _ _ _ rfl R) rfl ⟨congrArg Ending.returned (tk_eq HX.out.1 HX.out.2.1 HX.out.2.2.2), below_whole (B2.setCell (p := ⟨w.heap.size + 1, 2, none⟩) (Nat.le_succ _) _) (Nat.le_refl _) _ _ _ _⟩
end Go.Proofs.YtnhddnldebdmbaaDoor
