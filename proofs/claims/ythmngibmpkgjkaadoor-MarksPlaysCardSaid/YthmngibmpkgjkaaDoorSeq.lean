/- The iterator All: its contract for every body. -/
import Derived.RangeFuncNested
import Derived.RangeFuncBound
import Derived.RangeFuncCalls
import Derived.RangeFuncLeaves
import Derived.Shelf.Abstract
import Derived.Shelf.RegionOpen
import Derived.OwnWalkIn
import Derived.TacticsInMore
import Derived.LoopNIn
import Derived.LoopIn
import Derived.Test.YthmngibmpkgjkaaDoorTz
namespace Go.Proofs.YthmngibmpkgjkaaDoor
open Go.RowKit Go.Shelf
set_option linter.unusedVariables false
attribute [local go_sem] Oper.semAt_some

/-! ### Rising numbers -/
/-- The numbers of f, rising, from a on, of n. -/
def numsIn (f : Nat → Bool) (a n : Nat) : List Nat := (List.range' a n).filter f
def nums (f : Nat → Bool) : List Nat := numsIn f 0 1024
/-- What is left from word k on. -/
def numsFrom (f : Nat → Bool) (k : Nat) : List Nat := numsIn f (64 * k) (64 * (16 - k))
/-- The numbers of word k, as far as they still stand in x. -/
def bitsOf (k x : Nat) : List Nat := numsIn (fun n => x.testBit (n - 64 * k)) (64 * k) 64

theorem numsIn_append (f : Nat → Bool) (a m n : Nat) : numsIn f a (m + n) = numsIn f a m ++ numsIn f (a + m) n := by
  have := @List.range'_append a m n 1
  rw [Nat.one_mul] at this
  rw [numsIn, ← this, List.filter_append]; rfl
theorem numsIn_congr {f g : Nat → Bool} {a n : Nat} (h : ∀ j, a ≤ j → j < a + n → f j = g j) : numsIn f a n = numsIn g a n :=
  List.filter_congr fun j hj => by
    rw [List.mem_range'_1] at hj
    exact h j hj.1 hj.2
theorem numsIn_none {f : Nat → Bool} {a n : Nat} (h : ∀ j, a ≤ j → j < a + n → f j = false) : numsIn f a n = [] := by
  rw [numsIn, List.filter_eq_nil_iff]
  intro j hj
  rw [List.mem_range'_1] at hj
  rw [h j hj.1 hj.2]; simp
theorem numsFrom_0 (f : Nat → Bool) : numsFrom f 0 = nums f := rfl
theorem numsFrom_16 (f : Nat → Bool) : numsFrom f 16 = [] := rfl
theorem numsFrom_step (f : Nat → Bool) (k : Nat) (hk : k < 16) : numsFrom f k = numsIn f (64 * k) 64 ++ numsFrom f (k + 1) := by
  unfold numsFrom
  rw [show 64 * (16 - k) = 64 + 64 * (16 - (k + 1)) by omega, numsIn_append, show 64 * k + 64 = 64 * (k + 1) by omega]
theorem bitsOf_0 (k : Nat) : bitsOf k 0 = [] := numsIn_none (by simp)
theorem bitsOf_word (f : Nat → Bool) (k : Nat) : bitsOf k (word f k) = numsIn f (64 * k) 64 :=
  numsIn_congr fun j h1 h2 => by
    rw [testBit_word, show 64 * k + (j - 64 * k) = j by omega]
    simp; omega
theorem bitsOf_step (k t m : Nat) (ht : t < 64) : bitsOf k (2 ^ t * (2 * m + 1)) = (64 * k + t) :: bitsOf k (2 ^ t * (2 * m)) := by
  unfold bitsOf
  have e : 64 = t + (1 + (63 - t)) := by omega
  have split : ∀ g : Nat → Bool, numsIn g (64 * k) 64 = numsIn g (64 * k) t ++ (numsIn g (64 * k + t) 1 ++ numsIn g (64 * k + t + 1) (63 - t)) := fun g => by
    rw [← numsIn_append, ← numsIn_append, ← e]
  rw [split, split]
  have a1 : ∀ y, (∀ j, j < t → (y : Nat).testBit j = false) → numsIn (fun n => y.testBit (n - 64 * k)) (64 * k) t = [] := fun y hy =>
    numsIn_none fun j h1 h2 => hy _ (by omega)
  rw [a1 _ (fun j hj => low_below t m j hj), a1 (2 ^ t * (2 * m)) (fun j hj => by rw [Nat.testBit_two_pow_mul]; simp; omega)]
  have b1 : numsIn (fun n => (2 ^ t * (2 * m + 1)).testBit (n - 64 * k)) (64 * k + t) 1 = [64 * k + t] := by
    simp [numsIn, List.range', low_bit, Nat.add_sub_cancel_left]
  have b2 : numsIn (fun n => (2 ^ t * (2 * m)).testBit (n - 64 * k)) (64 * k + t) 1 = [] :=
    numsIn_none fun j h1 h2 => by
      rw [show j = 64 * k + t by omega, Nat.add_sub_cancel_left, Nat.testBit_two_pow_mul]
      simp
  have b3 : numsIn (fun n => (2 ^ t * (2 * m + 1)).testBit (n - 64 * k)) (64 * k + t + 1) (63 - t) = numsIn (fun n => (2 ^ t * (2 * m)).testBit (n - 64 * k)) (64 * k + t + 1) (63 - t) :=
    numsIn_congr fun j h1 h2 => by
      rw [Nat.testBit_two_pow_mul, Nat.testBit_two_pow_mul]
      obtain ⟨d, hd⟩ : ∃ d, j - 64 * k - t = d + 1 := ⟨j - 64 * k - t - 1, by omega⟩
      rw [hd, Nat.testBit_succ, Nat.testBit_succ, show (2 * m + 1) / 2 = 2 * m / 2 by omega]
  rw [b1, b2, b3]
  rfl
theorem mem_nums (f : Nat → Bool) (n : Nat) : n ∈ nums f ↔ n < 1024 ∧ f n = true := by
  simp [nums, numsIn, List.mem_filter, List.mem_range'_1]
theorem nums_congr {f g : Nat → Bool} (h : cellsL f = cellsL g) : nums f = nums g :=
  numsIn_congr fun j _ hj => by
    have h1 := cellsL_get f (j / 64) (by omega)
    rw [h, cellsL_get g (j / 64) (by omega)] at h1
    have h2 : word g (j / 64) = word f (j / 64) := by simp at h1; omega
    have h3 := testBit_word f (j / 64) (j % 64)
    rw [← h2, testBit_word, show 64 * (j / 64) + j % 64 = j by omega] at h3
    have h4 : j % 64 < 64 := by omega
    simpa [h4] using h3.symm

/-! ### All -/
theorem all_any (f : Nat → Bool) (w : World) :
    Calls Tryd.prog 23 #[setV f] w fun e w' => e = .returned (.func (.func 34) #[] #[.pointer (some ⟨w.heap.size, 0, none⟩)]) ∧ w' = w.alloc (.cells (cellsL f).toArray 26) := by
  have hmf : ∀ (fn : Fn) (first cap : Array Value) (w : World), (Instr.makeFunc fn first cap).run Tryd.prog w = .ok (.func fn first cap) w := fun _ _ _ _ => rfl
  go_enter Tryd.func23, Tryd.ntmps23
  go_wp2
  go_ret
  exact ⟨rfl, rfl⟩

/-- What a round keeps: all below n0, and the set's own block. -/
def Kp (n0 Bn : Nat) (W W' : World) : Prop := Below n0 W W' ∧ W'.heap[Bn]? = W.heap[Bn]?
theorem Kp.t {n0 Bn : Nat} {A B C : World} (h : Kp n0 Bn A B) (k : Kp n0 Bn B C) : Kp n0 Bn A C := ⟨h.1.trans k.1, k.2.trans h.2⟩
theorem Kp.b {n0 Bn : Nat} {w : World} (hn : n0 ≤ w.heap.size) (hB : Bn < w.heap.size) (W : World) (l : Nat) (o o' : Obj) (hl : w.heap.size ≤ l) (h : W.heap[l]? = some o) (h1 : o.isCells = false) (h2 : o.isWalk = false) : Kp n0 Bn W (W.putObj l o') :=
  ⟨belowK_b hn W l o o' hl h h1 h2, World.putObj_heap_other (by omega)⟩
theorem Kp.box {n0 Bn : Nat} {W W' : World} {f : Nat → Bool} (h : Kp n0 Bn W W') (b : Box W Bn f) : Box W' Bn f := ⟨h.2.trans b.is⟩
theorem Kp.tab {n0 Bn : Nat} {W W' : World} (h : Kp n0 Bn W W') (h0 : 0 < n0) (b : Tab W) : Tab W' := fun i v hv => by
  rw [h.1.cell (p := ⟨0, i, none⟩) h0]; exact b i v hv

theorem shl6 (k : Nat) (h : k < 16) : Op.shift .shl .i64 (k : Int) .u64 6 = pure (.int .i64 ((64 * k : Nat) : Int)) := by
  rw [shift_shl .i64 .u64 (k : Int) 6 (by omega) (by decide)]
  have e : (k : Int) * 2 ^ (6 : Int).toNat = ((64 * k : Nat) : Int) := by
    show (k : Int) * 64 = _
    omega
  rw [e, IntKind.wrap_i64]
  have e2 : (((64 * k : Nat) : Int) + 9223372036854775808) % 18446744073709551616 - 9223372036854775808 = ((64 * k : Nat) : Int) := by omega
  first | rw [e2] | (congr 2; omega)

set_option maxRecDepth 100000 in
set_option maxHeartbeats 2000000 in
theorem all1_in (l Bn n0 : Nat) (f : Nat → Bool) (J Jx : List Nat → World → Prop) (n : Nat) (hn : 1 ≤ n)
    (hY : ∀ pre (x : Nat) W, J pre W → pre.length < 1024 → YieldAt Fence.wide (n - 1) Tryd.prog l #[.int .i64 (x : Int)] W fun e W' =>
      (e = .returned (.bool true) ∧ J (pre ++ [x]) W' ∧ Kp n0 Bn W W') ∨ (e = .returned (.bool false) ∧ Jx (pre ++ [x]) W'))
    (W : World) (hB : Box W Bn f) (hT : Tab W) (h0 : 0 < n0) (hJ : J [] W) :
    CallsIn Fence.wide n Tryd.prog 34 #[.func (.yield l) #[] #[], .pointer (some ⟨Bn, 0, none⟩)] W fun e W' => (∃ v, e = .returned v) ∧
      ((∃ ys, ys = nums f ∧ J ys W') ∨ (∃ pre, pre <+: nums f ∧ Jx pre W')) := by
  refine callsIn_of_wp Tryd.func34 rfl trivial ?_ rfl
  simp only [Tryd.ntmps34, List.size_toArray, List.length_cons, List.length_nil, Nat.reduceAdd, Nat.reduceSub, Array.replicate_succ, Array.replicate_zero, List.push_toArray, List.append_toArray, List.nil_append, List.cons_append]
  gi_wp2
  gi_loopw [5] (fun i wr => ∃ (k : Nat) (pre : List Nat), k ≤ 16 ∧ i = .int .i64 k ∧ nums f = pre ++ numsFrom f k ∧ J pre wr ∧ Box wr Bn f ∧ Tab wr) (fun i _ => 16 - (intOf i).toNat)
  case atStart => exact ⟨0, [], by omega, rfl, by simp [numsFrom_0], hJ, hB, hT⟩
  case round =>
    obtain ⟨k, pre, hk, rfl, hx, hJ1, hB1, hT1⟩ := hrel
    have HX := Lib.hid hx
    clear hx hJ hB hT
    by_cases hlt : k < 16
    · have d1 := hB1.cell k hlt
      have q0 : nums f = pre ++ (bitsOf k (word f k) ++ numsFrom f (k + 1)) := by rw [HX.out, numsFrom_step f k hlt, bitsOf_word]
      have Q0 := Lib.hid q0
      have hdk : decide ((k : Int) < 16) = true := decide_eq_true (by omega)
      have hw := word_le f k
      clear q0 HX
      generalize word f k = y0 at *
      gi_wp2
      gi_loopw [4] (fun x wr => ∃ (y : Nat) (pre : List Nat), y ≤ 18446744073709551615 ∧ x = .int .u64 y ∧ Hid (nums f = pre ++ (bitsOf k y ++ numsFrom f (k + 1))) ∧ J pre wr ∧ Box wr Bn f ∧ Tab wr) (fun x _ => (intOf x).toNat)
      case atStart => exact ⟨y0, pre, hw, rfl, Q0, hJ1, hB1, hT1⟩
      case round =>
        clear hJ1 Q0 hw hB1 hT1 d1
        obtain ⟨y, pre, hy, rfl, Q0, hJ1, hB1, hT1⟩ := hrel
        by_cases hy0 : y = 0
        · subst hy0
          have q0 := Q0.out
          rw [bitsOf_0, List.nil_append] at q0
          have Q1 := Lib.hid q0
          clear q0 Q0
          gi_wp2
          go_roundw
          case rel => exact ⟨k + 1, pre, by omega, by go_num, Q1.out, hJ1, hB1, hT1⟩
          case measure => simp [intOf]; omega
        · obtain ⟨t, m, ht, hym⟩ := odd_form 64 y hy0 (by omega)
          have hq := Q0.out
          have hlen : (nums f).length ≤ 1024 := by
            have := List.length_filter_le f (List.range' 0 1024)
            rw [List.length_range'] at this
            exact this
          rw [hym, bitsOf_step k t m ht] at hq
          have hpl : pre.length < 1024 := by rw [hq] at hlen; simp at hlen; omega
          have T := Lib.hid (fun w hT => tz_any t m y w ht hym (by omega) hT)
          obtain ⟨fn, tmps, assign, body, hy, hR⟩ := hY pre (64 * k + t) wr hJ1 hpl
          have e1 := pred_and t m
          rw [← hym] at e1
          have c1 := u64_and_nat y (y - 1) (by omega) (by omega)
          rw [e1] at c1
          have e2 : (y : Int) - 1 = ((y - 1 : Nat) : Int) := by omega
          have hlt2 : 2 ^ t * (2 * m) < y := by have := Nat.two_pow_pos t; rw [hym, Nat.mul_add]; omega
          have s6 := shl6 k hlt
          have e3 : ((64 * k : Nat) : Int) + (t : Int) = ((64 * k + t : Nat) : Int) := by omega
          have hz : ((y : Int) != 0) = true := by simp; omega
          have hq2 : nums f = (pre ++ [64 * k + t]) ++ (bitsOf k (2 ^ t * (2 * m)) ++ numsFrom f (k + 1)) := by rw [hq]; simp
          have Q2 := Lib.hid hq2
          have Q3 : Hid (pre ++ [64 * k + t] <+: nums f) := ⟨_, hq2.symm⟩
          clear hq hq2 hym e1 hlen Q0
          generalize 2 ^ t * (2 * m) = y2 at *
          have hk64 : 64 * k ≤ 1024 := by omega
          generalize 64 * k + t = x at *
          generalize 64 * k = k6 at *
          generalize y - 1 = y1 at *
          gi_wp2_with (refine ⟨trivial, ?_⟩; gi_at_call 35; refine (callsIn_wide.2 (T.out _ hT1)).mono ?_; rintro e w' ⟨rfl, rfl⟩)
          refine hR.mono ?_
          rintro e W3 (⟨rfl, hJ3, hk3⟩ | ⟨rfl, hJx3⟩)
          · have hB3 := hk3.box hB1
            have hT3 := hk3.tab h0 hT1
            gi_wp2
            go_roundw
            case rel => exact ⟨y2, pre ++ [x], by omega, by go_num, Q2, hJ3, hB3, hT3⟩
            case measure => simp [intOf]; omega
          · gi_wp2
            refine bodyPost_ret (results_none rfl _ _ _) rfl ?_
            exact ⟨⟨_, rfl⟩, .inr ⟨pre ++ [x], Q3.out, hJx3⟩⟩
    · obtain rfl : k = 16 := by omega
      gi_wp2
      go_end0
      exact ⟨⟨_, rfl⟩, .inl ⟨pre, by simpa [numsFrom_16] using HX.out.symm, hJ1⟩⟩

/-- **All's contract, for every body that keeps what lay below n0 and the set's own block.** -/
theorem all_stops (n : Nat) (hn : 1 ≤ n) (f : Nat → Bool) (Bn n0 : Nat) (w : World) (hB : Box w Bn f) (hT : Tab w) (h0 : 0 < n0) :
    SeqStopsK Fence.wide n Tryd.prog 34 #[.pointer (some ⟨Bn, 0, none⟩)] (fun x : Nat => #[.int .i64 (x : Int)]) (Kp n0 Bn) (fun xs => xs = nums f) (fun pre => pre <+: nums f) 1024 w :=
  fun l J Jx W hW hJ hJx hY hJ0 => all1_in l Bn n0 f J Jx n hn hY W (hB.below hW hB.lt) (hT.below hW) h0 hJ0
end Go.Proofs.YthmngibmpkgjkaaDoor
