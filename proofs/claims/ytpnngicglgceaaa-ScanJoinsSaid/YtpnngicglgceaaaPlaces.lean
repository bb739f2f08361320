/- ScanPlaces: the walk. -/
import Derived.Test.YtpnngicglgceaaaPos
import Derived.Deep.Quiet
namespace Go.Proofs.Ytpnngicglgceaaa
open Go.RowKit Go.Shelf
set_option linter.unusedVariables false

/-! ### The lexical walk of a region in a class of worlds -/
section
variable {ops : Array Oper} {C : World → Prop} {Q : Act → Prop} {a : Act} {o : Oper} {rest : List Oper}
theorem wq_skip (hw : Region.wanted o (yielded ops a.tmps) = false) (h : wpQuiet Try.prog ops C Q rest (a.put o.dst undef)) : wpQuiet Try.prog ops C Q (o :: rest) a :=
  wpQuiet_step fun K hK => by rw [hw]; exact hK _ h
theorem wq_val (v : Value) (hw : Region.wanted o (yielded ops a.tmps) = true) (hr : ∀ w, C w → (execOp a.eval o).run Try.prog w = .ok (.value v) w) (h : wpQuiet Try.prog ops C Q rest (a.put o.dst v)) : wpQuiet Try.prog ops C Q (o :: rest) a :=
  wpQuiet_step fun K hK => by
    rw [if_pos hw]
    refine ⟨v, fun w hC => ?_, hK _ h⟩
    unfold Oper.quietAt
    rw [hr w hC]
    exact ⟨rfl, rfl⟩
theorem wq_call {g : FuncId} {args : Array Value} {v : Value} (hc : ∀ w, C w → Calls Try.prog g args w fun e w' => e = .returned v ∧ Below w.heap.size w w') (hstep : ∀ w w', C w → Below w.heap.size w w' → C w')
    (hw : Region.wanted o (yielded ops a.tmps) = true) (hr : ∀ w, C w → (execOp a.eval o).run Try.prog w = .ok (.enter g args) w) (h : wpQuiet Try.prog ops C Q rest (a.put o.dst v)) : wpQuiet Try.prog ops C Q (o :: rest) a :=
  wpQuiet_step fun K hK => by
    rw [if_pos hw]
    refine ⟨v, fun w hC => ?_, hK _ h⟩
    unfold Oper.quietAt
    rw [hr w hC]
    exact ⟨rfl, (hc w hC).mono fun e w' hq => ⟨hq.1, hstep w w' hC hq.2⟩⟩
theorem region_quiet_l {l : List Oper} {C : World → Prop} {id : Nat} {Q : Exit → Act → World → Prop} {a : Act} {w : World} (hm : Try.prog.follows .mixedOrders = true) (hB : Region.lexB .any l.toArray = true) (hC : C w.drew)
    (h : wpQuiet Try.prog l.toArray C (fun a' => ∀ w', C w' → Q .normal a' w') l a) : (Code.region id l.toArray true).wp Try.prog Q a w :=
  wp_region_quiet hm hB hC (by simpa using h)
theorem below_drew (w : World) : Below w.heap.size w w.drew := ⟨rfl, rfl, rfl, Nat.le_refl _, fun _ _ => rfl⟩
end
/-- The worlds of the long test: the token's own block; all that lay below B. -/
def PC (B b : Nat) (x : Tk) (w0 W : World) : Prop := TB W b x ∧ Below B w0 W ∧ B ≤ W.heap.size
theorem pc_step {B b : Nat} {x : Tk} {w0 : World} (W W' : World) (h : PC B b x w0 W) (hb : Below W.heap.size W W') : PC B b x w0 W' := ⟨h.1.later hb, h.2.1.trans (hb.mono h.2.2), Nat.le_trans h.2.2 hb.size⟩

set_option maxRecDepth 100000 in
set_option maxHeartbeats 4000000 in
theorem places_walk (s : ByteArray) (w : World) (hs : s.size ≤ maxLen) :
    Calls Try.prog 4 #[.string s] w fun e w' => e = .returned (.bool true) ∧ Below w.heap.size w w' := by
  have S := Lib.hid (fun w => short_any s w hs)
  have h100 := shortS_size s
  generalize shortS s = t at *
  have hs5 : t.size ≤ 100000 := by omega
  have E1 := Lib.hid (fun w => each_any t w hs5)
  go_enter Try.func4, Try.ntmps4
  go_upto_region 4 with (first
    | (go_at_call 9; refine (awake_any _).mono ?_; rintro e w1 ⟨rfl, h1⟩)
    | (go_at_call 10; (with_reducible refine (S.out _).mono ?_); rintro e w2 ⟨rfl, rfl⟩)
    | (go_at_call 12; (with_reducible refine (E1.out _).mono ?_); rintro e w3 ⟨v, rfl, hv, h3⟩))
  have B3 := h1.trans (h3.mono h1.size)
  clear h1 h3 S E1
  rcases hv with ⟨rfl, hts⟩ | ⟨g, cap, rfl, ha, hb, hc, hd⟩
  · have HT := Lib.hid hts
    clear hts
    go_wp2
    go_rounds 1
    go_ret
    exact ⟨rfl, B3⟩
  · unfold maxLen at hb
    have HD := Lib.hid hd
    have P0 := Pos.start t
    generalize hts : tokL t = ts at *
    have HTS := Lib.hid hts
    clear hd hts
    go_wp2
    go_loopw [6, 7] (fun p i wr => ∃ (k a : Nat) (pre : List Tk), k ≤ ts.length ∧ i = .int .i64 k ∧ p = .int .i64 a ∧ Hid (pre.length = k) ∧ Pos t pre a ∧ Below w3.heap.size w3 wr) (fun _ i _ => ts.length - (intOf i).toNat)
    case atStart => exact ⟨0, 0, [], Nat.zero_le _, rfl, rfl, Lib.hid rfl, P0, Below.refl _ _⟩
    case round =>
      clear P0
      obtain ⟨k, a, pre, hk, rfl, rfl, hl, hP, hB⟩ := hrel
      by_cases hlt : k < ts.length
      · obtain ⟨x, hx, F, hP2⟩ := hP.step (by rw [HTS.out, hl.out]; exact hlt)
        rw [HTS.out, hl.out] at hx
        obtain ⟨a0, a1, a2, a3⟩ := at_mul (HD.out k x hx)
        have hi0 : (0 : Int) ≤ (k : Int) := by omega
        have hi1 : (k : Int) < (ts.length : Int) := by omega
        have hdk : decide ((k : Int) < (ts.length : Int)) = true := decide_eq_true (by omega)
        have e0 := (hB.cell (p := ⟨g, k * 4, none⟩) hc).trans a0
        have e1 := (hB.cell (p := ⟨g, k * 4 + 1, none⟩) hc).trans a1
        have e2 := (hB.cell (p := ⟨g, k * 4 + 2, none⟩) hc).trans a2
        have e3 := (hB.cell (p := ⟨g, k * 4 + 3, none⟩) hc).trans a3
        have HP := Lib.hid hP
        have HP2 := Lib.hid hP2
        have HF := Lib.hid F
        clear hx a0 a1 a2 a3 hP hP2 F
        go_upto_region 9 with (fail)
        obtain ⟨W4, hW4, C4⟩ : ∃ W4, wr.alloc (.cells #[.int .i64 (x.k : Int), .int .i64 (x.at' : Int), .string (bs x.t), .int .i64 (x.n : Int)] 36) = W4 ∧ PC w3.heap.size wr.heap.size x w3 W4 :=
          ⟨_, rfl, TB.new wr x, hB.trans ((Below.refl _ _).alloc hB.size _), by have := hB.size; simp; omega⟩
        rw [hW4]
        clear hW4 e0 e1 e2 e3 hB
        generalize wr.heap.size = b8 at *
        have F := HF.out
        have SK : Hid (∀ W : World, Calls Try.prog 17 #[.string t, .int .i64 (a : Int)] W fun e W' => e = .returned (.int .i64 (x.at' : Int)) ∧ Below W.heap.size W W') := Lib.hid fun W => by
          have := skip_any t a W HP.out.le hs5
          rw [F.sk] at this
          exact this.mono fun e w' h => ⟨h.1, by rw [← h.2]; exact Below.refl _ _⟩
        have hx5 : (bs x.t).size ≤ 100000 := by rw [bs_size]; have := F.le; omega
        have WD := Lib.hid (fun W => word_any (bs x.t) W hx5)
        rw [F.wd] at WD
        have k1 := F.k1
        have k4 := F.k4
        have n40 := F.n40
        have le := F.le
        have ne := F.ne
        have sk := F.sk
        have hsl := fun W => slice_run t x.at' (x.at' + x.t.length) (by omega) le W
        rw [F.tx, show ((x.at' + x.t.length : Nat) : Int) = (x.at' : Int) + (x.t.length : Int) from rfl] at hsl
        have hbn := bs_size x.t
        have hal : a ≤ x.at' := by omega
        have htl : ((bs x.t).toList == ([] : List UInt8)) = false := by
          rw [Lib.toList_data, bs_toList]
          cases hxt : x.t with
          | nil => rw [hxt] at ne; simp at ne
          | cons d r => rfl
        have q1 : decide ((x.at' : Int) < (a : Int)) = false := decide_eq_false (by omega)
        have q2 : decide ((x.at' : Int) + (x.t.length : Int) > (t.size : Int)) = false := decide_eq_false (by omega)
        have q3 : decide ((x.k : Int) < 1) = false := decide_eq_false (by omega)
        have q4 : decide ((x.k : Int) > 4) = false := decide_eq_false (by omega)
        have q5 : decide ((x.n : Int) < 0) = false := decide_eq_false (by omega)
        have q6 : decide ((x.n : Int) > 1099511627776) = false := decide_eq_false (by omega)
        have hwr : IntKind.i64.wrap ((x.at' : Int) + (x.t.length : Int)) = (x.at' : Int) + (x.t.length : Int) := IntWalk.i64_in _ (by omega)
        have r1 : decide (x.at' < a) = false := decide_eq_false (by omega)
        have r2 : decide (t.size < x.at' + x.t.length) = false := decide_eq_false (by omega)
        have r2' : decide ((t.size : Int) < (x.at' : Int) + (x.t.length : Int)) = false := decide_eq_false (by omega)
        have r3 : decide (x.k < 1) = false := decide_eq_false (by omega)
        have r3' : decide (x.k = 0) = false := decide_eq_false (by omega)
        have r4 : decide (4 < x.k) = false := decide_eq_false (by omega)
        have r4' : decide (4 < (x.k : Int)) = false := decide_eq_false (by omega)
        have r6 : decide (1099511627776 < x.n) = false := decide_eq_false (by omega)
        have r6' : decide (1099511627776 < (x.n : Int)) = false := decide_eq_false (by omega)
        clear F sk le ne
        have hn0 := HF.out.n0
        by_cases hk2 : x.k = 2
        · have q7 : ((x.k : Int) != 2) = false := by rw [hk2]; rfl
          have q9 : ((x.k : Int) == 1) = decide (x.k = 1) := by rw [Bool.eq_iff_iff]; simp; omega
          generalize decide (x.k = 1) = wb at *
          have q10 : (wb != wb) = false := by cases wb <;> rfl
          clear hk2 hn0
          refine region_quiet_l (C := PC w3.heap.size b8 x w3) (by kernel_rfl) (by kernel_rfl) (pc_step _ _ C4 (below_drew _)) ?_
          repeat (first
            | (refine wq_skip (by rfl) ?_; (try simp only [Act.put, List.setIfInBounds_toArray, List.set_cons_zero, List.set_cons_succ]))
            | (refine wq_val _ (by rfl) (by intro w hC; have z0 := hC.1.c0; have z1 := hC.1.c1; have z2 := hC.1.c2; have z3 := hC.1.c3; clear hC; go_simp; (try rfl)) ?_; (try simp only [Act.put, List.setIfInBounds_toArray, List.set_cons_zero, List.set_cons_succ]))
            | (with_reducible fail))
          refine wq_call (fun W _ => SK.out W) pc_step (by rfl) (by intro w _; go_simp) ?_
          (try simp only [Act.put, List.setIfInBounds_toArray, List.set_cons_zero, List.set_cons_succ])
          repeat (first
            | (refine wq_skip (by rfl) ?_; (try simp only [Act.put, List.setIfInBounds_toArray, List.set_cons_zero, List.set_cons_succ]))
            | (refine wq_val _ (by rfl) (by intro w hC; have z0 := hC.1.c0; have z1 := hC.1.c1; have z2 := hC.1.c2; have z3 := hC.1.c3; clear hC; go_simp; (try rfl)) ?_; (try simp only [Act.put, List.setIfInBounds_toArray, List.set_cons_zero, List.set_cons_succ]))
            | (with_reducible fail))
          refine wq_call (fun W _ => WD.out W) pc_step (by rfl) (by intro w _; go_simp) ?_
          (try simp only [Act.put, List.setIfInBounds_toArray, List.set_cons_zero, List.set_cons_succ])
          repeat (first
            | (refine wq_skip (by rfl) ?_; (try simp only [Act.put, List.setIfInBounds_toArray, List.set_cons_zero, List.set_cons_succ]))
            | (refine wq_val _ (by rfl) (by intro w hC; have z0 := hC.1.c0; have z1 := hC.1.c1; have z2 := hC.1.c2; have z3 := hC.1.c3; clear hC; go_simp; (try rfl)) ?_; (try simp only [Act.put, List.setIfInBounds_toArray, List.set_cons_zero, List.set_cons_succ]))
            | (with_reducible fail))
          refine wpQuiet_nil ?_
          intro W5 hW5
          have z1 := hW5.1.c1
          have z2 := hW5.1.c2
          have hB5 := hW5.2.1
          clear hW5 C4 hsl
          go_wp2
          exact ⟨⟨k + 1, x.at' + x.t.length, pre ++ [x], by omega, by simp, by simp, Lib.hid (by simp [hl.out]), HP2.out, hB5⟩, by simp [intOf]; omega⟩
        · have q7 : ((x.k : Int) != 2) = true := by simp; omega
          have q8 : ((x.n : Int) != 0) = false := by rw [hn0 hk2]; rfl
          have q9 : ((x.k : Int) == 1) = decide (x.k = 1) := by rw [Bool.eq_iff_iff]; simp; omega
          generalize decide (x.k = 1) = wb at *
          have q10 : (wb != wb) = false := by cases wb <;> rfl
          clear hk2 hn0
          refine region_quiet_l (C := PC w3.heap.size b8 x w3) (by kernel_rfl) (by kernel_rfl) (pc_step _ _ C4 (below_drew _)) ?_
          repeat (first
            | (refine wq_skip (by rfl) ?_; (try simp only [Act.put, List.setIfInBounds_toArray, List.set_cons_zero, List.set_cons_succ]))
            | (refine wq_val _ (by rfl) (by intro w hC; have z0 := hC.1.c0; have z1 := hC.1.c1; have z2 := hC.1.c2; have z3 := hC.1.c3; clear hC; go_simp; (try rfl)) ?_; (try simp only [Act.put, List.setIfInBounds_toArray, List.set_cons_zero, List.set_cons_succ]))
            | (with_reducible fail))
          refine wq_call (fun W _ => SK.out W) pc_step (by rfl) (by intro w _; go_simp) ?_
          (try simp only [Act.put, List.setIfInBounds_toArray, List.set_cons_zero, List.set_cons_succ])
          repeat (first
            | (refine wq_skip (by rfl) ?_; (try simp only [Act.put, List.setIfInBounds_toArray, List.set_cons_zero, List.set_cons_succ]))
            | (refine wq_val _ (by rfl) (by intro w hC; have z0 := hC.1.c0; have z1 := hC.1.c1; have z2 := hC.1.c2; have z3 := hC.1.c3; clear hC; go_simp; (try rfl)) ?_; (try simp only [Act.put, List.setIfInBounds_toArray, List.set_cons_zero, List.set_cons_succ]))
            | (with_reducible fail))
          refine wq_call (fun W _ => WD.out W) pc_step (by rfl) (by intro w _; go_simp) ?_
          (try simp only [Act.put, List.setIfInBounds_toArray, List.set_cons_zero, List.set_cons_succ])
          repeat (first
            | (refine wq_skip (by rfl) ?_; (try simp only [Act.put, List.setIfInBounds_toArray, List.set_cons_zero, List.set_cons_succ]))
            | (refine wq_val _ (by rfl) (by intro w hC; have z0 := hC.1.c0; have z1 := hC.1.c1; have z2 := hC.1.c2; have z3 := hC.1.c3; clear hC; go_simp; (try rfl)) ?_; (try simp only [Act.put, List.setIfInBounds_toArray, List.set_cons_zero, List.set_cons_succ]))
            | (with_reducible fail))
          refine wpQuiet_nil ?_
          intro W5 hW5
          have z1 := hW5.1.c1
          have z2 := hW5.1.c2
          have hB5 := hW5.2.1
          clear hW5 C4 hsl
          go_wp2
          exact ⟨⟨k + 1, x.at' + x.t.length, pre ++ [x], by omega, by simp, by simp, Lib.hid (by simp [hl.out]), HP2.out, hB5⟩, by simp [intOf]; omega⟩
      · have hdk : decide ((k : Int) < (ts.length : Int)) = false := decide_eq_false (by omega)
        clear HD HTS hP
        go_wp2
        go_ret
        exact ⟨rfl, B3.trans (hB.mono B3.size)⟩
end Go.Proofs.Ytpnngicglgceaaa
