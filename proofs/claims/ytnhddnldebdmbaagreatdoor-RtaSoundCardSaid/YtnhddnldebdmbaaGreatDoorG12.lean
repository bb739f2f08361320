/- Texts about the program, one after the other: MSeq, DRg, DAll, Where, DAt, Lower, DBlk, DRnd. -/
import Derived.RangeFuncNested
import Derived.RangeFuncBound
import Derived.RangeFuncCalls
import Derived.RangeFuncLeaves
import Derived.Shelf.Abstract
import Derived.Shelf.RegionOpen
import Derived.OwnWalkIn
import Derived.TacticsInMore
import Derived.LoopNIn
import Derived.LoopIn
import Derived.Test.YtnhddnldebdmbaaGreatDoorG11
import Derived.Test.YtnhddnldebdmbaaGreatDoorG1
import Derived.Test.YtnhddnldebdmbaaGreatDoorG2
import Derived.OrdersIn
import Derived.Stop.RegionWithIn
import Derived.Deep.Quiet
import Derived.Deep.RegionHeld
/- The iterator All: its contract for every body. -/
namespace Go.Proofs.YtnhddnldebdmbaaGreatDoor
open Go.RowKit Go.Shelf
set_option linter.unusedVariables false
attribute [local go_sem] Oper.semAt_some

/-! ### Rising numbers -/
/-- The numbers of f, rising, from a on, of n. -/
def numsIn (f : Nat → Bool) (a n : Nat) : List Nat := (List.range' a n).filter f
def nums (f : Nat → Bool) : List Nat := numsIn f 0 1024
/-- What is left from word k on. -/
def numsFrom (f : Nat → Bool) (k : Nat) : List Nat := numsIn f (64 * k) (64 * (16 - k))
/-- The numbers of word k, as far as they still stand in x. -/
def bitsOf (k x : Nat) : List Nat := numsIn (fun n => x.testBit (n - 64 * k)) (64 * k) 64

theorem numsIn_append (f : Nat → Bool) (a m n : Nat) : numsIn f a (m + n) = numsIn f a m ++ numsIn f (a + m) n := by
  have := @List.range'_append a m n 1
  rw [Nat.one_mul] at this
  rw [numsIn, ← this, List.filter_append]; rfl
theorem numsIn_congr {f g : Nat → Bool} {a n : Nat} (h : ∀ j, a ≤ j → j < a + n → f j = g j) : numsIn f a n = numsIn g a n :=
  List.filter_congr fun j hj => by
    rw [List.mem_range'_1] at hj
    exact h j hj.1 hj.2
theorem numsIn_none {f : Nat → Bool} {a n : Nat} (h : ∀ j, a ≤ j → j < a + n → f j = false) : numsIn f a n = [] := by
  rw [numsIn, List.filter_eq_nil_iff]
  intro j hj
  rw [List.mem_range'_1] at hj
  rw [h j hj.1 hj.2]; simp
theorem numsFrom_0 (f : Nat → Bool) : numsFrom f 0 = nums f := rfl
theorem numsFrom_16 (f : Nat → Bool) : numsFrom f 16 = [] := rfl
theorem numsFrom_step (f : Nat → Bool) (k : Nat) (hk : k < 16) : numsFrom f k = numsIn f (64 * k) 64 ++ numsFrom f (k + 1) := by
  unfold numsFrom
  rw [show 64 * (16 - k) = 64 + 64 * (16 - (k + 1)) by omega, numsIn_append, show 64 * k + 64 = 64 * (k + 1) by omega]
theorem bitsOf_0 (k : Nat) : bitsOf k 0 = [] := numsIn_none (by simp)
theorem bitsOf_word (f : Nat → Bool) (k : Nat) : bitsOf k (word f k) = numsIn f (64 * k) 64 :=
  numsIn_congr fun j h1 h2 => by
    rw [testBit_word, show 64 * k + (j - 64 * k) = j by omega]
    simp; omega
theorem bitsOf_step (k t m : Nat) (ht : t < 64) : bitsOf k (2 ^ t * (2 * m + 1)) = (64 * k + t) :: bitsOf k (2 ^ t * (2 * m)) := by
  unfold bitsOf
  have e : 64 = t + (1 + (63 - t)) := by omega
  have split : ∀ g : Nat → Bool, numsIn g (64 * k) 64 = numsIn g (64 * k) t ++ (numsIn g (64 * k + t) 1 ++ numsIn g (64 * k + t + 1) (63 - t)) := fun g => by
    rw [← numsIn_append, ← numsIn_append, ← e]
  rw [split, split]
  have a1 : ∀ y, (∀ j, j < t → (y : Nat).testBit j = false) → numsIn (fun n => y.testBit (n - 64 * k)) (64 * k) t = [] := fun y hy =>
    numsIn_none fun j h1 h2 => hy _ (by omega)
  rw [a1 _ (fun j hj => low_below t m j hj), a1 (2 ^ t * (2 * m)) (fun j hj => by rw [Nat.testBit_two_pow_mul]; simp; omega)]
  have b1 : numsIn (fun n => (2 ^ t * (2 * m + 1)).testBit (n - 64 * k)) (64 * k + t) 1 = [64 * k + t] := by
    simp [numsIn, List.range', low_bit, Nat.add_sub_cancel_left]
  have b2 : numsIn (fun n => (2 ^ t * (2 * m)).testBit (n - 64 * k)) (64 * k + t) 1 = [] :=
    numsIn_none fun j h1 h2 => by
      rw [show j = 64 * k + t by omega, Nat.add_sub_cancel_left, Nat.testBit_two_pow_mul]
      simp
  have b3 : numsIn (fun n => (2 ^ t * (2 * m + 1)).testBit (n - 64 * k)) (64 * k + t + 1) (63 - t) = numsIn (fun n => (2 ^ t * (2 * m)).testBit (n - 64 * k)) (64 * k + t + 1) (63 - t) :=
    numsIn_congr fun j h1 h2 => by
      rw [Nat.testBit_two_pow_mul, Nat.testBit_two_pow_mul]
      obtain ⟨d, hd⟩ : ∃ d, j - 64 * k - t = d + 1 := ⟨j - 64 * k - t - 1, by omega⟩
      rw [hd, Nat.testBit_succ, Nat.testBit_succ, show (2 * m + 1) / 2 = 2 * m / 2 by omega]
  rw [b1, b2, b3]
  rfl
theorem mem_nums (f : Nat → Bool) (n : Nat) : n ∈ nums f ↔ n < 1024 ∧ f n = true := by
  simp [nums, numsIn, List.mem_filter, List.mem_range'_1]
theorem nums_congr {f g : Nat → Bool} (h : cellsL f = cellsL g) : nums f = nums g :=
  numsIn_congr fun j _ hj => by
    have h1 := cellsL_get f (j / 64) (by omega)
    rw [h, cellsL_get g (j / 64) (by omega)] at h1
    have h2 : word g (j / 64) = word f (j / 64) := by simp at h1; omega
    have h3 := testBit_word f (j / 64) (j % 64)
    rw [← h2, testBit_word, show 64 * (j / 64) + j % 64 = j by omega] at h3
    have h4 : j % 64 < 64 := by omega
    simpa [h4] using h3.symm

/-! ### All -/
theorem all_any (f : Nat → Bool) (w : World) :
    Calls Tryz.prog 56 #[setV f] w fun e w' => e = .returned (.func (.func 79) #[] #[.pointer (some ⟨w.heap.size, 0, none⟩)]) ∧ w' = w.alloc (.cells (cellsL f).toArray 104) := by
  have hmf : ∀ (fn : Fn) (first cap : Array Value) (w : World), (Instr.makeFunc fn first cap).run Tryz.prog w = .ok (.func fn first cap) w := fun _ _ _ _ => rfl
  go_enter Tryz.func56, Tryz.ntmps56
  go_wp2
  go_ret
  exact ⟨rfl, rfl⟩

/-- What a round keeps: all below n0, and the set's own block. -/
def Kpm (n0 Bn : Nat) (W W' : World) : Prop := Below n0 W W' ∧ W'.heap[Bn]? = W.heap[Bn]?
theorem Kpm.t {n0 Bn : Nat} {A B C : World} (h : Kpm n0 Bn A B) (k : Kpm n0 Bn B C) : Kpm n0 Bn A C := ⟨h.1.trans k.1, k.2.trans h.2⟩
theorem Kpm.b {n0 Bn : Nat} {w : World} (hn : n0 ≤ w.heap.size) (hB : Bn < w.heap.size) (W : World) (l : Nat) (o o' : Obj) (hl : w.heap.size ≤ l) (h : W.heap[l]? = some o) (h1 : o.isCells = false) (h2 : o.isWalk = false) : Kpm n0 Bn W (W.putObj l o') :=
  ⟨belowK_b hn W l o o' hl h h1 h2, World.putObj_heap_other (by omega)⟩
theorem Kpm.box {n0 Bn : Nat} {W W' : World} {f : Nat → Bool} (h : Kpm n0 Bn W W') (b : Box W Bn f) : Box W' Bn f := ⟨h.2.trans b.is⟩
theorem Kpm.tab {n0 Bn : Nat} {W W' : World} (h : Kpm n0 Bn W W') (h0 : 0 < n0) (b : Tab W) : Tab W' := fun i v hv => by
  rw [h.1.cell (p := ⟨0, i, none⟩) h0]; exact b i v hv

theorem shl6 (k : Nat) (h : k < 16) : Op.shift .shl .i64 (k : Int) .u64 6 = pure (.int .i64 ((64 * k : Nat) : Int)) := by
  rw [shift_shl .i64 .u64 (k : Int) 6 (by omega) (by decide)]
  have e : (k : Int) * 2 ^ (6 : Int).toNat = ((64 * k : Nat) : Int) := by
    show (k : Int) * 64 = _
    omega
  rw [e, IntKind.wrap_i64]
  have e2 : (((64 * k : Nat) : Int) + 9223372036854775808) % 18446744073709551616 - 9223372036854775808 = ((64 * k : Nat) : Int) := by omega
  first | rw [e2] | (congr 2; omega)

set_option maxRecDepth 100000 in
set_option maxHeartbeats 2000000 in
theorem all1_in (l Bn n0 : Nat) (f : Nat → Bool) (J Jx : List Nat → World → Prop) (n : Nat) (hn : 1 ≤ n)
    (hY : ∀ pre (x : Nat) W, J pre W → pre.length < 1024 → YieldAt Fence.wide (n - 1) Tryz.prog l #[.int .i64 (x : Int)] W fun e W' =>
      (e = .returned (.bool true) ∧ J (pre ++ [x]) W' ∧ Kpm n0 Bn W W') ∨ (e = .returned (.bool false) ∧ Jx (pre ++ [x]) W'))
    (W : World) (hB : Box W Bn f) (hT : Tab W) (h0 : 0 < n0) (hJ : J [] W) :
    CallsIn Fence.wide n Tryz.prog 79 #[.func (.yield l) #[] #[], .pointer (some ⟨Bn, 0, none⟩)] W fun e W' => (∃ v, e = .returned v) ∧
      ((∃ ys, ys = nums f ∧ J ys W') ∨ (∃ pre, pre <+: nums f ∧ Jx pre W')) := by
  refine callsIn_of_wp Tryz.func79 rfl trivial ?_ rfl
  simp only [Tryz.ntmps79, List.size_toArray, List.length_cons, List.length_nil, Nat.reduceAdd, Nat.reduceSub, Array.replicate_succ, Array.replicate_zero, List.push_toArray, List.append_toArray, List.nil_append, List.cons_append]
  gi_wp2
  gi_loopw [5] (fun i wr => ∃ (k : Nat) (pre : List Nat), k ≤ 16 ∧ i = .int .i64 k ∧ nums f = pre ++ numsFrom f k ∧ J pre wr ∧ Box wr Bn f ∧ Tab wr) (fun i _ => 16 - (intOf i).toNat)
  case atStart => exact ⟨0, [], by omega, rfl, by simp [numsFrom_0], hJ, hB, hT⟩
  case round =>
    obtain ⟨k, pre, hk, rfl, hx, hJ1, hB1, hT1⟩ := hrel
    have HX := Lib.hid hx
    clear hx hJ hB hT
    by_cases hlt : k < 16
    · have d1 := hB1.cell k hlt
      have q0 : nums f = pre ++ (bitsOf k (word f k) ++ numsFrom f (k + 1)) := by rw [HX.out, numsFrom_step f k hlt, bitsOf_word]
      have Q0 := Lib.hid q0
      have hdk : decide ((k : Int) < 16) = true := decide_eq_true (by omega)
      have hw := word_le f k
      clear q0 HX
      generalize word f k = y0 at *
      gi_wp2
      gi_loopw [4] (fun x wr => ∃ (y : Nat) (pre : List Nat), y ≤ 18446744073709551615 ∧ x = .int .u64 y ∧ Hid (nums f = pre ++ (bitsOf k y ++ numsFrom f (k + 1))) ∧ J pre wr ∧ Box wr Bn f ∧ Tab wr) (fun x _ => (intOf x).toNat)
      case atStart => exact ⟨y0, pre, hw, rfl, Q0, hJ1, hB1, hT1⟩
      case round =>
        clear hJ1 Q0 hw hB1 hT1 d1
        obtain ⟨y, pre, hy, rfl, Q0, hJ1, hB1, hT1⟩ := hrel
        by_cases hy0 : y = 0
        · subst hy0
          have q0 := Q0.out
          rw [bitsOf_0, List.nil_append] at q0
          have Q1 := Lib.hid q0
          clear q0 Q0
          gi_wp2
          go_roundw
          case rel => exact ⟨k + 1, pre, by omega, by go_num, Q1.out, hJ1, hB1, hT1⟩
          case measure => simp [intOf]; omega
        · obtain ⟨t, m, ht, hym⟩ := odd_form 64 y hy0 (by omega)
          have hq := Q0.out
          have hlen : (nums f).length ≤ 1024 := by
            have := List.length_filter_le f (List.range' 0 1024)
            rw [List.length_range'] at this
            exact this
          rw [hym, bitsOf_step k t m ht] at hq
          have hpl : pre.length < 1024 := by rw [hq] at hlen; simp at hlen; omega
          have T := Lib.hid (fun w hT => tz_any t m y w ht hym (by omega) hT)
          obtain ⟨fn, tmps, assign, body, hy, hR⟩ := hY pre (64 * k + t) wr hJ1 hpl
          have e1 := pred_and t m
          rw [← hym] at e1
          have c1 := u64_and_nat y (y - 1) (by omega) (by omega)
          rw [e1] at c1
          have e2 : (y : Int) - 1 = ((y - 1 : Nat) : Int) := by omega
          have hlt2 : 2 ^ t * (2 * m) < y := by have := Nat.two_pow_pos t; rw [hym, Nat.mul_add]; omega
          have s6 := shl6 k hlt
          have e3 : ((64 * k : Nat) : Int) + (t : Int) = ((64 * k + t : Nat) : Int) := by omega
          have hz : ((y : Int) != 0) = true := by simp; omega
          have hq2 : nums f = (pre ++ [64 * k + t]) ++ (bitsOf k (2 ^ t * (2 * m)) ++ numsFrom f (k + 1)) := by rw [hq]; simp
          have Q2 := Lib.hid hq2
          have Q3 : Hid (pre ++ [64 * k + t] <+: nums f) := ⟨_, hq2.symm⟩
          clear hq hq2 hym e1 hlen Q0
          generalize 2 ^ t * (2 * m) = y2 at *
          have hk64 : 64 * k ≤ 1024 := by omega
          generalize 64 * k + t = x at *
          generalize 64 * k = k6 at *
          generalize y - 1 = y1 at *
          gi_wp2_with (refine ⟨trivial, ?_⟩; gi_at_call 80; refine (callsIn_wide.2 (T.out _ hT1)).mono ?_; rintro e w' ⟨rfl, rfl⟩)
          refine hR.mono ?_
          rintro e W3 (⟨rfl, hJ3, hk3⟩ | ⟨rfl, hJx3⟩)
          · have hB3 := hk3.box hB1
            have hT3 := hk3.tab h0 hT1
            gi_wp2
            go_roundw
            case rel => exact ⟨y2, pre ++ [x], by omega, by go_num, Q2, hJ3, hB3, hT3⟩
            case measure => simp [intOf]; omega
          · gi_wp2
            refine bodyPost_ret (results_none rfl _ _ _) rfl ?_
            exact ⟨⟨_, rfl⟩, .inr ⟨pre ++ [x], Q3.out, hJx3⟩⟩
    · obtain rfl : k = 16 := by omega
      gi_wp2
      go_end0
      exact ⟨⟨_, rfl⟩, .inl ⟨pre, by simpa [numsFrom_16] using HX.out.symm, hJ1⟩⟩

/-- **All's contract, for every body that keeps what lay below n0 and the set's own block.** -/
theorem all_stops (n : Nat) (hn : 1 ≤ n) (f : Nat → Bool) (Bn n0 : Nat) (w : World) (hB : Box w Bn f) (hT : Tab w) (h0 : 0 < n0) :
    SeqStopsK Fence.wide n Tryz.prog 79 #[.pointer (some ⟨Bn, 0, none⟩)] (fun x : Nat => #[.int .i64 (x : Int)]) (Kpm n0 Bn) (fun xs => xs = nums f) (fun pre => pre <+: nums f) 1024 w :=
  fun l J Jx W hW hJ hJx hY hJ0 => all1_in l Bn n0 f J Jx n hn hY W (hB.below hW hB.lt) (hT.below hW) h0 hJ0
end Go.Proofs.YtnhddnldebdmbaaGreatDoor
/- A range over an iterator that may itself range over another one: its word, and the law for its caller; what a round keeps is told by a predicate over blocks. -/
namespace Go.Proofs.YtnhddnldebdmbaaGreatDoor
open Go.RowKit Go.Shelf
set_option linter.unusedVariables false
/-- Blocks of cells that are so are as they were. -/
structure KeepG (P : Nat → TypeId → Prop) (W W' : World) : Prop where
  size : W.heap.size ≤ W'.heap.size
  block : ∀ k cs T fr, P k T → W.heap[k]? = some (.cells cs T fr) → W'.heap[k]? = some (.cells cs T fr)
theorem KeepG.refl (P : Nat → TypeId → Prop) (W : World) : KeepG P W W := ⟨Nat.le_refl _, fun _ _ _ _ _ h => h⟩
theorem KeepG.trans {P : Nat → TypeId → Prop} {A B C : World} (h : KeepG P A B) (k : KeepG P B C) : KeepG P A C := ⟨Nat.le_trans h.size k.size, fun i cs T fr hx hi => k.block i cs T fr hx (h.block i cs T fr hx hi)⟩
theorem KeepG.below {P : Nat → TypeId → Prop} {A B : World} (h : Below A.heap.size A B) : KeepG P A B := ⟨h.size, fun i cs T fr _ hi => (h.block i (Array.getElem?_eq_some_iff.1 hi).1).trans hi⟩
theorem KeepG.weak {P P' : Nat → TypeId → Prop} {A B : World} (h : KeepG P A B) (hP : ∀ k cs T fr, A.heap[k]? = some (.cells cs T fr) → P' k T → P k T) : KeepG P' A B := ⟨h.size, fun i cs T fr hp hi => h.block i cs T fr (hP i cs T fr hi hp) hi⟩
theorem KeepG.put {P : Nat → TypeId → Prop} {W : World} {l : Nat} {o : Obj} (o' : Obj) (h : W.heap[l]? = some o) (ho : o.isCells = false) : KeepG P W (W.putObj l o') := by
  refine ⟨by simp, fun i cs T fr hx hi => ?_⟩
  have hne : i ≠ l := by
    rintro rfl
    rw [h] at hi
    cases hi
    simp [Obj.isCells] at ho
  exact (World.putObj_heap_other hne).trans hi
theorem KeepG.setCell {P : Nat → TypeId → Prop} {W : World} {a : Addr} (v : Value) (h : ∀ cs T fr, W.heap[a.block]? = some (.cells cs T fr) → ¬ P a.block T) : KeepG P W (W.setCell a v) := by
  refine ⟨by simp, fun i cs T fr hx hi => ?_⟩
  by_cases e : i = a.block
  · subst e; exact absurd hx (h cs T fr hi)
  · exact (heap_setCell_other W a i v e).trans hi
theorem KeepG.cell {P : Nat → TypeId → Prop} {A B : World} (h : KeepG P A B) {b i : Nat} {v : Value} (hc : A.cell? ⟨b, i, none⟩ = some v) (hx : ∀ T, P b T) : B.cell? ⟨b, i, none⟩ = some v := by
  have hl := World.block_lt_of_cell? A _ hc
  cases ho : A.heap[b]? with
  | none => simp [World.cell?, ho] at hc
  | some o =>
    cases o with
    | cells cs T fr => rw [World.cell?_of_block (w := A) (a := ⟨b, i, none⟩) ((h.block b cs T fr (hx T) ho).trans ho.symm)]; exact hc
    | _ => simp [World.cell?, ho] at hc
theorem KeepG.boxed {P : Nat → TypeId → Prop} {W W' : World} {b : Nat} {t : TypeId} {v : Value} (h : KeepG P W W') (hb : Boxed W b t v) (hx : P b t) : Boxed W' b t v := h.block b _ _ _ hx hb
def postG {E : Type} (B : Nat) (P : Nat → TypeId → Prop) (I : List E → World → Prop) (Ix : Code → List E → World → Prop) (xs : List E) (W : World) : Exit → Act → World → Prop
  | .normal, _, W' => KeepsFrom B W W' ∧ KeepG P W W' ∧ I xs W'
  | .ret, _, W' => KeepsFrom B W W' ∧ Ix .ret xs W'
  | .exit id, _, W' => KeepsFrom B W W' ∧ Ix (.exit id) xs W'
  | .goto t, _, W' => KeepsFrom B W W' ∧ Ix (.goto t) xs W'
  | .panic _, _, _ => False
  | .outgrown, _, _ => False
/-- An iterator's word: called with yield it tells L, as long as rounds go on. -/
def SeqG {E : Type} (vals : E → Array Value) (n g : Nat) (lb : Array Value) (P : Nat → TypeId → Prop) (L : List E) (w : World) : Prop :=
  ∀ (l : Nat) (J Jx : List E → World → Prop) (W : World), Below w.heap.size w W → OwnFrom W.heap.size J → OwnFrom W.heap.size Jx →
    (∀ pre x r W1, J pre W1 → L = pre ++ x :: r → YieldAt Fence.wide (n - 1) Tryz.prog l (vals x) W1 fun e W' =>
      (e = .returned (.bool true) ∧ J (pre ++ [x]) W' ∧ KeepG P W1 W' ∧ KeepsFrom W.heap.size W1 W') ∨ (e = .returned (.bool false) ∧ Jx (pre ++ [x]) W' ∧ KeepsFrom W.heap.size W1 W')) →
    J [] W →
    CallsIn Fence.wide n Tryz.prog g (#[.func (.yield l) #[] #[]] ++ lb) W fun e W' => (∃ v, e = .returned v) ∧ (J L W' ∨ (∃ pre x r, L = pre ++ x :: r ∧ Jx (pre ++ [x]) W'))

set_option maxHeartbeats 1000000 in
/-- The law for a caller. Ax: what the assignment to the loop's variable leaves. -/
theorem rangeG {E : Type} {vals : E → Array Value} {P : Nat → TypeId → Prop} {L : List E} {g : Operand} {ps : Array Tmp} {assign body : Code} {Q : Exit → Act → World → Prop} {a : Act} {w w0 : World} {n gf : Nat} {lb : Array Value} 
    (hg : a.eval g = .func (.func gf) #[] lb) (eg : ∀ args w, (callFunc gf args).run Tryz.prog w = .ok (.enter gf args) w)
    (hseq : SeqG vals (n - 1) gf lb P L w0) (hb0 : Below w0.heap.size w0 w) (hps : ∀ x, (vals x).size = ps.size)
    (I : List E → World → Prop) (Ix : Code → List E → World → Prop) (hI : OwnFrom w.heap.size I) (hIx : ∀ c, OwnFrom w.heap.size (Ix c)) (h0 : I [] w)
    (Ax : E → Act → World → Prop) (hAx : ∀ x a', OwnFrom w.heap.size (fun (_ : Unit) W => Ax x a' W))
    (hassign : ∀ (l : Nat) (pre : List E) (x : E) (W : World) (K : Act → World → Prop), I pre W → (∀ a' W', KeepsFrom w.heap.size W W' → KeepG P W W' → I pre W' → Ax x a' W' → K a' W') →
      assign.wpIn (Fence.wide.inRound l) (n - 1 - 1) Tryz.prog (Exit.then K (fun _ _ _ => False)) { tmps := (ps.zip (vals x)).foldl (fun t (p, v) => t.setIfInBounds p v) a.tmps, defers := [] } W)
    (hbody : ∀ (l : Nat) (pre : List E) (x : E) (a' : Act) (W : World), I pre W → Ax x a' W → (∃ r, L = pre ++ x :: r) →
      body.wpIn (Fence.wide.inRound l) (n - 1 - 1) Tryz.prog (postG w.heap.size P I Ix (pre ++ [x]) W) a' W)
    (hdone : ∀ (D : Nat) (W : World), w.heap.size ≤ D → I L W → W.heap[D]? = some (.deferred (some [])) → Q .normal { a with defers := { target := .collected D, args := #[] } :: a.defers } W)
    (hstop : ∀ (D : Nat) (c : Code) (pre : List E) (x : E) (W : World), w.heap.size ≤ D → (∃ r, L = pre ++ x :: r) → Ix c (pre ++ [x]) W → W.heap[D]? = some (.deferred (some [])) → c.wpIn Fence.wide n Tryz.prog Q { a with defers := { target := .collected D, args := #[] } :: a.defers } W) :
    (Code.rangeFunc g ps assign body).wpIn Fence.wide n Tryz.prog Q a w := by
  refine wpIn_rangeFunc fun fn hfn => ?_
  obtain ⟨D, hD⟩ : ∃ D, D = w.heap.size := ⟨_, rfl⟩
  obtain ⟨rc, hrc⟩ : ∃ rc : LoopState → Option Code → Loop, rc = fun st pe => { state := st, pending := pe, fn, tmps := a.tmps, params := ps, assign, body, defers := D } := ⟨_, rfl⟩
  obtain ⟨V, hV⟩ : ∃ V, (w.alloc (.deferred (some []))).alloc (.loop (rc .ready none)) = V := ⟨_, rfl⟩
  have hVs : V.heap.size = D + 2 := by rw [← hV, hD]; simp
  have hV2 : Two D (rc .ready none) V := by
    rw [← hV, hD]
    refine ⟨(Below.heap_alloc _ _ _ (by simp)).trans (World.alloc_heap_new w _), ?_⟩
    have := World.alloc_heap_new (w.alloc (.deferred (some []))) (.loop (rc .ready none))
    rwa [World.size_alloc] at this
  have hVI : I [] V := by rw [← hV]; exact hI.alloc _ (hI.alloc _ h0)
  have hVb : Below w0.heap.size w0 V := by
    rw [← hV]
    exact hb0.trans ((((Below.refl _ w).alloc (Nat.le_refl _) _).alloc (by simp) _).mono hb0.size)
  have nc : ∀ {X : World} {row : Option Nat}, (∀ r, row = some r → V.heap.size ≤ r ∧ ∃ o : Obj, X.heap[r]? = some o ∧ o.isCells = false) → (∀ r, row = some r → w.heap.size ≤ r ∧ ∃ o : Obj, X.heap[r]? = some o ∧ o.isCells = false) :=
    fun h r e => ⟨by have := (h r e).1; omega, (h r e).2⟩
  have far : ∀ {X : World} {row : Option Nat}, (∀ r, row = some r → V.heap.size ≤ r ∧ ∃ o : Obj, X.heap[r]? = some o ∧ o.isCells = false) → ∀ r, row = some r → V.heap.size ≤ r := fun h r e => (h r e).1
  have put : ∀ {pre : List E} {W : World} {r : Loop} (r' : Loop), I pre W → Two D r W → I pre (W.putObj (D + 1) (.loop r')) := fun r' hi h2 => hI.putObj _ hi (by omega) h2.l rfl
  have putx : ∀ {c : Code} {pre : List E} {W : World} {r : Loop} (r' : Loop), Ix c pre W → Two D r W → Ix c pre (W.putObj (D + 1) (.loop r')) := fun r' hi h2 => (hIx _).putObj _ hi (by omega) h2.l rfl
  refine ⟨D + 1, [{ target := .collected D, args := #[] }], V, { target := .fn (.func gf) lb, args := #[.func (.yield (D + 1)) #[] #[]] }, V, gf, #[.func (.yield (D + 1)) #[] #[]] ++ lb, V, ?_, ?_, ?_, ?_, ?_, ?_⟩
  · rw [← hV, hrc, hD]; exact run_enterLoop_outer _ _ _ _ _
  · simp only [resolve, hg]
    simp [go_sem]
  · intro f' _; trivial
  · simp [invoke, go_sem, eg]
  · intro h; cases h
  · refine (hseq (D + 1) (fun pre W => I pre W ∧ Two D (rc .ready none) W) (fun pre W => ∃ c, Ix c pre W ∧ Two D (rc .done (some c)) W) V hVb
      (fun s X Y row hs hg' hr => ⟨hI s X Y row hs.1 hg' (nc hr), hs.2.kept hg' (by omega) (far hr)⟩)
      (fun s X Y row ⟨c, hs, h2⟩ hg' hr => ⟨c, hIx c s X Y row hs hg' (nc hr), h2.kept hg' (by omega) (far hr)⟩)
      ?_ ⟨hVI, hV2⟩).mono ?_
    · rintro pre x r W ⟨hi, h2⟩ hL
      have hy := run_yield (P := Tryz.prog) (args := (vals x)) h2.l (by rw [hrc]; exact hps x)
      rw [hrc] at hy
      refine ⟨fn, _, assign, body, hy, roundIn_of_wpIn trivial (hassign _ pre x W _ hi ?_)⟩
      clear hy
      intro a' Wa hkf hkp hia hax
      rw [← hD] at hkf
      have h2a := h2.from hkf
      refine ⟨_, run_beginRound h2a.l (by rw [hrc]), ?_⟩
      have hfb := (keepsFrom_up hkf (show D ≤ V.heap.size by omega)).trans (keepsFrom_put V.heap.size Wa (D + 1) (.loop { rc .ready none with state := .busy }) (by omega))
      have h2b := h2a.put { rc .ready none with state := .busy }
      have hkb := hkp.trans (KeepG.put (P := P) (.loop { rc .ready none with state := .busy }) h2a.l rfl)
      refine wpIn_mono (hbody _ pre x a' _ (put _ hia h2a) ((hAx x a').putObj (s := ()) _ hax (by omega) h2a.l rfl) ⟨r, hL⟩) ?_
      generalize Wa.putObj (D + 1) (.loop { rc .ready none with state := .busy }) = Wb at *
      rw [← hD]
      have fin : ∀ (jump : Option Code) (W3 : World), KeepsFrom D Wb W3 →
          (Instr.endRound (D + 1) jump).run Tryz.prog W3 = .ok (.bool jump.isNone) (W3.putObj (D + 1) (.loop (rc (if jump.isNone then .ready else .done) jump))) ∧ Two D { rc .ready none with state := .busy } W3 ∧ ∀ o, KeepsFrom V.heap.size W (W3.putObj (D + 1) o) := fun jump W3 hk3 => by
        have h3 := h2b.from hk3
        have := run_endRound (P := Tryz.prog) jump h3.l
        rw [hrc] at this h3 ⊢
        exact ⟨this, h3, fun o => (hfb.trans (keepsFrom_up hk3 (show D ≤ V.heap.size by omega))).trans (keepsFrom_put V.heap.size W3 (D + 1) o (by omega))⟩
      rintro e a3 W3 hp
      cases e with
      | normal =>
        obtain ⟨hk3, hkp3, hi3⟩ := hp
        obtain ⟨hr, h3, hf3⟩ := fin none W3 hk3
        exact ⟨_, _, hr, .inl ⟨rfl, ⟨put _ hi3 h3, h3.put _⟩, (hkb.trans hkp3).trans (KeepG.put _ h3.l rfl), hf3 _⟩⟩
      | ret =>
        obtain ⟨hk3, hi3⟩ := hp
        obtain ⟨hr, h3, hf3⟩ := fin (some .ret) W3 hk3
        exact ⟨_, _, hr, .inr ⟨rfl, ⟨.ret, putx _ hi3 h3, h3.put _⟩, hf3 _⟩⟩
      | exit id =>
        obtain ⟨hk3, hi3⟩ := hp
        obtain ⟨hr, h3, hf3⟩ := fin (some (.exit id)) W3 hk3
        exact ⟨_, _, hr, .inr ⟨rfl, ⟨.exit id, putx _ hi3 h3, h3.put _⟩, hf3 _⟩⟩
      | goto t =>
        obtain ⟨hk3, hi3⟩ := hp
        obtain ⟨hr, h3, hf3⟩ := fin (some (.goto t)) W3 hk3
        exact ⟨_, _, hr, .inr ⟨rfl, ⟨.goto t, putx _ hi3 h3, h3.put _⟩, hf3 _⟩⟩
      | panic ch => exact hp.elim
      | outgrown => exact hp.elim
    · rintro e W2 ⟨⟨v, rfl⟩, (⟨hi, h2⟩ | ⟨pre, x, r, hL, c, hi, h2⟩)⟩
      · have he := run_endLoop (P := Tryz.prog) h2.l (by rw [hrc]; simp)
        rw [hrc] at he
        exact ⟨none, _, he, hdone D _ (Nat.le_of_eq hD.symm) (put _ hi h2) ((World.putObj_heap_other (by omega)).trans h2.d)⟩
      · have he := run_endLoop (P := Tryz.prog) h2.l (by rw [hrc]; simp)
        rw [hrc] at he
        exact ⟨some c, _, he, hstop D c pre x _ (Nat.le_of_eq hD.symm) ⟨r, hL⟩ (putx _ hi h2) ((World.putObj_heap_other (by omega)).trans h2.d)⟩
end Go.Proofs.YtnhddnldebdmbaaGreatDoor
/- All's word: the numbers of a set, one by one. -/
namespace Go.Proofs.YtnhddnldebdmbaaGreatDoor
open Go.RowKit Go.Shelf
set_option linter.unusedVariables false
attribute [local go_sem] Oper.semAt_some
abbrev numV (x : Nat) : Array Value := #[.int .i64 (x : Int)]
theorem KeepG.box {P : Nat → TypeId → Prop} {W W' : World} {b : Nat} {f : Nat → Bool} (h : KeepG P W W') (hb : Box W b f) (hx : P b 104) : Box W' b f := ⟨h.block b _ _ _ hx hb.is⟩
theorem KeepG.tab {P : Nat → TypeId → Prop} {W W' : World} (h : KeepG P W W') (hT : Tab W) (hx : ∀ T, P 0 T) : Tab W' := fun i v hv => h.cell (b := 0) (hT i v hv) hx
set_option maxRecDepth 100000 in
set_option maxHeartbeats 2000000 in
theorem all2_in (l Bn : Nat) (f : Nat → Bool) (J Jx : List Nat → World → Prop) (n : Nat) (hn : 1 ≤ n)
    (hY : ∀ pre (x : Nat) r W, J pre W → nums f = pre ++ x :: r → YieldAt Fence.wide (n - 1) Tryz.prog l #[.int .i64 (x : Int)] W fun e W' =>
      (e = .returned (.bool true) ∧ J (pre ++ [x]) W' ∧ (Box W Bn f → Box W' Bn f) ∧ (Tab W → Tab W')) ∨ (e = .returned (.bool false) ∧ Jx (pre ++ [x]) W'))
    (W : World) (hB : Box W Bn f) (hT : Tab W) (hJ : J [] W) :
    CallsIn Fence.wide n Tryz.prog 79 #[.func (.yield l) #[] #[], .pointer (some ⟨Bn, 0, none⟩)] W fun e W' => (∃ v, e = .returned v) ∧
      (J (nums f) W' ∨ (∃ pre x r, nums f = pre ++ x :: r ∧ Jx (pre ++ [x]) W')) := by
  refine callsIn_of_wp Tryz.func79 rfl trivial ?_ rfl
  simp only [Tryz.ntmps79, List.size_toArray, List.length_cons, List.length_nil, Nat.reduceAdd, Nat.reduceSub, Array.replicate_succ, Array.replicate_zero, List.push_toArray, List.append_toArray, List.nil_append, List.cons_append]
  gi_wp2
  gi_loopw [5] (fun i wr => ∃ (k : Nat) (pre : List Nat), k ≤ 16 ∧ i = .int .i64 k ∧ nums f = pre ++ numsFrom f k ∧ J pre wr ∧ Box wr Bn f ∧ Tab wr) (fun i _ => 16 - (intOf i).toNat)
  case atStart => exact ⟨0, [], by omega, rfl, by simp [numsFrom_0], hJ, hB, hT⟩
  case round =>
    obtain ⟨k, pre, hk, rfl, hx, hJ1, hB1, hT1⟩ := hrel
    have HX := Lib.hid hx
    clear hx hJ hB hT
    by_cases hlt : k < 16
    · have d1 := hB1.cell k hlt
      have q0 : nums f = pre ++ (bitsOf k (word f k) ++ numsFrom f (k + 1)) := by rw [HX.out, numsFrom_step f k hlt, bitsOf_word]
      have Q0 := Lib.hid q0
      have hdk : decide ((k : Int) < 16) = true := decide_eq_true (by omega)
      have hw := word_le f k
      clear q0 HX
      generalize word f k = y0 at *
      gi_wp2
      gi_loopw [4] (fun x wr => ∃ (y : Nat) (pre : List Nat), y ≤ 18446744073709551615 ∧ x = .int .u64 y ∧ Hid (nums f = pre ++ (bitsOf k y ++ numsFrom f (k + 1))) ∧ J pre wr ∧ Box wr Bn f ∧ Tab wr) (fun x _ => (intOf x).toNat)
      case atStart => exact ⟨y0, pre, hw, rfl, Q0, hJ1, hB1, hT1⟩
      case round =>
        clear hJ1 Q0 hw hB1 hT1 d1
        obtain ⟨y, pre, hy, rfl, Q0, hJ1, hB1, hT1⟩ := hrel
        by_cases hy0 : y = 0
        · subst hy0
          have q0 := Q0.out
          rw [bitsOf_0, List.nil_append] at q0
          have Q1 := Lib.hid q0
          clear q0 Q0
          gi_wp2
          go_roundw
          case rel => exact ⟨k + 1, pre, by omega, by go_num, Q1.out, hJ1, hB1, hT1⟩
          case measure => simp [intOf]; omega
        · obtain ⟨t, m, ht, hym⟩ := odd_form 64 y hy0 (by omega)
          have hq := Q0.out
          have hlen : (nums f).length ≤ 1024 := by
            have := List.length_filter_le f (List.range' 0 1024)
            rw [List.length_range'] at this
            exact this
          rw [hym, bitsOf_step k t m ht] at hq
          have hpl : pre.length < 1024 := by rw [hq] at hlen; simp at hlen; omega
          have T := Lib.hid (fun w hT => tz_any t m y w ht hym (by omega) hT)
          obtain ⟨fn, tmps, assign, body, hy, hR⟩ := hY pre (64 * k + t) _ wr hJ1 hq
          have e1 := pred_and t m
          rw [← hym] at e1
          have c1 := u64_and_nat y (y - 1) (by omega) (by omega)
          rw [e1] at c1
          have e2 : (y : Int) - 1 = ((y - 1 : Nat) : Int) := by omega
          have hlt2 : 2 ^ t * (2 * m) < y := by have := Nat.two_pow_pos t; rw [hym, Nat.mul_add]; omega
          have s6 := shl6 k hlt
          have e3 : ((64 * k : Nat) : Int) + (t : Int) = ((64 * k + t : Nat) : Int) := by omega
          have hz : ((y : Int) != 0) = true := by simp; omega
          have hq2 : nums f = (pre ++ [64 * k + t]) ++ (bitsOf k (2 ^ t * (2 * m)) ++ numsFrom f (k + 1)) := by rw [hq]; simp
          have Q2 := Lib.hid hq2
          have Q3 : Hid (∃ r, nums f = pre ++ (64 * k + t) :: r) := ⟨_, hq⟩
          clear hq hq2 hym e1 hlen Q0
          generalize 2 ^ t * (2 * m) = y2 at *
          have hk64 : 64 * k ≤ 1024 := by omega
          generalize 64 * k + t = x at *
          generalize 64 * k = k6 at *
          generalize y - 1 = y1 at *
          gi_wp2_with (refine ⟨trivial, ?_⟩; gi_at_call 80; refine (callsIn_wide.2 (T.out _ hT1)).mono ?_; rintro e w' ⟨rfl, rfl⟩)
          refine hR.mono ?_
          rintro e W3 (⟨rfl, hJ3, hk3, hk4⟩ | ⟨rfl, hJx3⟩)
          · have hB3 := hk3 hB1
            have hT3 := hk4 hT1
            gi_wp2
            go_roundw
            case rel => exact ⟨y2, pre ++ [x], by omega, by go_num, Q2, hJ3, hB3, hT3⟩
            case measure => simp [intOf]; omega
          · gi_wp2
            refine bodyPost_ret (results_none rfl _ _ _) rfl ?_
            obtain ⟨rr, hrr⟩ := Q3.out
            exact ⟨⟨_, rfl⟩, .inr ⟨pre, x, rr, hrr, hJx3⟩⟩
    · obtain rfl : k = 16 := by omega
      gi_wp2
      go_end0
      have hpre : pre = nums f := by simpa [numsFrom_16] using HX.out.symm
      exact ⟨⟨_, rfl⟩, .inl (hpre ▸ hJ1)⟩

/-- **All's word.** -/
theorem all2_seq (n : Nat) (hn : 1 ≤ n) (f : Nat → Bool) (Bn : Nat) (P : Nat → TypeId → Prop) (w : World) (hB : Box w Bn f) (hT : Tab w) (hP : P Bn 104) (hP0 : ∀ T, P 0 T) :
    SeqG numV n 79 #[.pointer (some ⟨Bn, 0, none⟩)] P (nums f) w := fun l J Jx W hW hJ hJx hY hJ0 =>
  all2_in l Bn f J Jx n hn (fun pre x r W1 h1 h2 => by
    obtain ⟨fn, tmps, assign, body, hy, hR⟩ := hY pre x r W1 h1 h2
    refine ⟨fn, tmps, assign, body, hy, hR.mono ?_⟩
    rintro e W' (⟨h3, h4, h5, _⟩ | ⟨h3, h4, _⟩)
    · exact .inl ⟨h3, h4, fun hb => h5.box hb hP, fun ht => h5.tab ht hP0⟩
    · exact .inr ⟨h3, h4⟩) W (hB.below hW hB.lt) (hT.below hW) hJ0
end Go.Proofs.YtnhddnldebdmbaaGreatDoor
/- Higher and Lower: their contracts. -/
namespace Go.Proofs.YtnhddnldebdmbaaGreatDoor
open Go.RowKit
set_option linter.unusedVariables false
set_option linter.unusedSimpArgs false

/-- The urgency of the task at a place, if there is one. -/
def pAt (l : List Ts) (i : Int) : Option Int := if 0 ≤ i then (l[i.toNat]?).map (·.p) else none
def higherF (l : List Ts) (i : Int) : Nat → Bool := fun k => match pAt l i, l[k]? with
  | some p, some x => decide (x.p < p)
  | _, _ => false
def lowerF (l : List Ts) (i : Int) : Nat → Bool := fun k => match pAt l i, l[k]? with
  | some p, some x => decide (p < x.p)
  | _, _ => false
theorem pAt_none {l : List Ts} {i : Int} (h : i < 0 ∨ (l.length : Int) ≤ i) : pAt l i = none := by
  unfold pAt
  by_cases h0 : 0 ≤ i
  · rw [if_pos h0, List.getElem?_eq_none (by omega)]; rfl
  · rw [if_neg h0]
theorem pAt_some {l : List Ts} {k : Nat} {x : Ts} (h : l[k]? = some x) : pAt l (k : Int) = some x.p := by
  unfold pAt
  rw [if_pos (by omega), Int.toNat_natCast, h]; rfl
theorem higherF_none {l : List Ts} {i : Int} (h : pAt l i = none) : higherF l i = noneF := by funext k; simp [higherF, h, noneF]
theorem lowerF_none {l : List Ts} {i : Int} (h : pAt l i = none) : lowerF l i = noneF := by funext k; simp [lowerF, h, noneF]
theorem higherF_at {l : List Ts} {i : Int} {p : Int} {k : Nat} {x : Ts} (h : pAt l i = some p) (hx : l[k]? = some x) : higherF l i k = decide (x.p < p) := by simp [higherF, h, hx]
theorem lowerF_at {l : List Ts} {i : Int} {p : Int} {k : Nat} {x : Ts} (h : pAt l i = some p) (hx : l[k]? = some x) : lowerF l i k = decide (p < x.p) := by simp [lowerF, h, hx]
theorem higherF_far {l : List Ts} {i : Int} {k : Nat} (h : l.length ≤ k) : higherF l i k = false := by
  unfold higherF
  rw [List.getElem?_eq_none h]
  split
  · rename_i h2; cases h2
  · rfl
theorem lowerF_far {l : List Ts} {i : Int} {k : Nat} (h : l.length ≤ k) : lowerF l i k = false := by
  unfold lowerF
  rw [List.getElem?_eq_none h]
  split
  · rename_i h2; cases h2
  · rfl

/-- f, up to k. -/
def cutF (f : Nat → Bool) (k : Nat) : Nat → Bool := fun j => decide (j < k) && f j
theorem cutF_zero (f : Nat → Bool) : cutF f 0 = noneF := by funext j; simp [cutF, noneF]
theorem cutF_yes {f : Nat → Bool} {k : Nat} (h : f k = true) : insMM (cutF f k) (k : Int) = cutF f (k + 1) := by
  funext j
  simp only [insMM, cutF]
  by_cases hj : j = k
  · subst hj; simp [h]
  · have h1 : decide ((j : Int) = (k : Int)) = false := decide_eq_false (by omega)
    have h2 : decide (j < k) = decide (j < k + 1) := by rw [decide_eq_decide]; omega
    rw [h1, h2, Bool.or_false]
theorem cutF_no {f : Nat → Bool} {k : Nat} (h : f k = false) : cutF f k = cutF f (k + 1) := by
  funext j
  simp only [cutF]
  by_cases hj : j = k
  · subst hj; simp [h]
  · have h2 : decide (j < k) = decide (j < k + 1) := by rw [decide_eq_decide]; omega
    rw [h2]
theorem setV_eq {f g : Nat → Bool} (h : ∀ j, j < 1024 → f j = g j) : setV f = setV g := by
  rw [setV, (cellsL_ext fun i hi => word_ext fun j hj => h _ (by omega) : cellsL f = cellsL g)]
theorem setV_cut {f : Nat → Bool} {n m : Nat} (hf : ∀ k, n ≤ k → f k = false) (hm : m = min n 1024) : setV (cutF f m) = setV f := setV_eq fun j hj => by
  simp only [cutF]
  by_cases h : j < n
  · rw [decide_eq_true (by omega), Bool.true_and]
  · rw [hf j (by omega), Bool.and_false]
theorem Box.later {w w' : World} {b : Nat} {f : Nat → Bool} (h : Box w b f) (hb : Below w.heap.size w w') : Box w' b f := h.below hb h.lt
theorem two_zero (w : World) : ∃ W, (w.alloc (.cells #[.int .u64 0, .int .u64 0, .int .u64 0, .int .u64 0, .int .u64 0, .int .u64 0, .int .u64 0, .int .u64 0, .int .u64 0, .int .u64 0, .int .u64 0, .int .u64 0, .int .u64 0, .int .u64 0, .int .u64 0, .int .u64 0] 104)).alloc (.cells #[.int .u64 0, .int .u64 0, .int .u64 0, .int .u64 0, .int .u64 0, .int .u64 0, .int .u64 0, .int .u64 0, .int .u64 0, .int .u64 0, .int .u64 0, .int .u64 0, .int .u64 0, .int .u64 0, .int .u64 0, .int .u64 0] 104) = W ∧ Box W w.heap.size noneF ∧ Box W (w.heap.size + 1) noneF ∧ Below w.heap.size w W := by
  have b1 := zero_box w
  have b2 := zero_box (w.alloc (.cells #[.int .u64 0, .int .u64 0, .int .u64 0, .int .u64 0, .int .u64 0, .int .u64 0, .int .u64 0, .int .u64 0, .int .u64 0, .int .u64 0, .int .u64 0, .int .u64 0, .int .u64 0, .int .u64 0, .int .u64 0, .int .u64 0] 104))
  rw [World.size_alloc] at b2
  exact ⟨_, rfl, b1.alloc _, b2, ((Below.refl w.heap.size w).alloc (Nat.le_refl _) _).alloc (by simp) _⟩

theorem higher1_any (p q : Int) (w : World) : Calls Tryz.prog 78 #[.int .i64 p, .int .i64 q] w fun e w' => e = .returned (.bool (decide (p < q))) ∧ w = w' := by
  go_enter Tryz.func78, Tryz.ntmps78
  go_wp2
  go_ret
  exact ⟨rfl, rfl⟩
theorem lower1_any (p q : Int) (w : World) : Calls Tryz.prog 121 #[.int .i64 p, .int .i64 q] w fun e w' => e = .returned (.bool (decide (q < p))) ∧ w = w' := by
  go_enter Tryz.func121, Tryz.ntmps121
  go_wp2
  go_ret
  exact ⟨rfl, rfl⟩

set_option maxRecDepth 100000 in
set_option maxHeartbeats 8000000 in
theorem where_higher (A : Option Addr) (cap : Nat) (l : List Ts) (i : Int) (w : World) (hR : Row w A cap l) (hi : in64 i) :
    Calls Tryz.prog 77 #[.slice A l.length cap, .int .i64 i, .func (.func 78) #[] #[]] w fun e w' => e = .returned (setV (higherF l i)) ∧ Below w.heap.size w w' := by
  have hle := hR.le
  have hmx := hR.mx
  obtain ⟨W0, hW0, G1, G2, B0⟩ := two_zero w
  have HW0 := Lib.hid hW0
  have ROW := Lib.hid hR
  clear hW0 hR
  by_cases hin : 0 ≤ i ∧ i < (l.length : Int)
  · obtain ⟨h0, h1⟩ := hin
    have h0' : decide (i < 0) = false := decide_eq_false (by omega)
    have h1' : decide (i ≥ (l.length : Int)) = false := decide_eq_false (by omega)
    have h1'' : decide ((l.length : Int) ≤ i) = false := decide_eq_false (by omega)
    obtain ⟨n, rfl⟩ := Int.eq_ofNat_of_zero_le h0
    obtain ⟨m, hm⟩ : ∃ m, m = min l.length 1024 := ⟨_, rfl⟩
    have hmin : min (l.length : Int) 1024 = (m : Int) := by omega
    have HM := Lib.hid hm
    have hml : m ≤ l.length := by omega
    have hm1 : m ≤ 1024 := by omega
    clear hm
    obtain ⟨b, o, xi, rfl, hxi, hwi, hbl, hTi⟩ := ROW.out.get (k := n) (by omega)
    have HP := Lib.hid (pAt_some hxi)
    have HTi := Lib.hid hTi
    clear hxi hwi hTi
    obtain ⟨f, hf⟩ : ∃ f, higherF l (n : Int) = f := ⟨_, rfl⟩
    have hfar : ∀ k, l.length ≤ k → f k = false := fun k hk => by rw [← hf]; exact higherF_far hk
    have hat : ∀ k x, l[k]? = some x → f k = decide (x.p < xi.p) := fun k x hx => by rw [← hf]; exact higherF_at HP.out hx
    rw [hf]
    have HEQ := Lib.hid (setV_cut hfar HM.out)
    have HAT := Lib.hid hat
    clear hf hfar hat
    have hmc : (m : Int) ≤ (cap : Int) := by omega
    have h1N : decide (l.length ≤ n) = false := decide_eq_false (by omega)
    go_enter Tryz.func77, Tryz.ntmps77
    go_upto_region 2 with (fail)
    rw [HW0.out]
    clear HW0
    go_wp2
    go_loopw [25] (fun s wr => ∃ k : Nat, k ≤ m ∧ s = .int .i64 k ∧ Box wr w.heap.size noneF ∧ Box wr (w.heap.size + 1) (cutF f k) ∧ Below w.heap.size w wr) (fun s _ => m - (intOf s).toNat)
    case atStart => exact ⟨0, Nat.zero_le _, rfl, G1, by rw [cutF_zero]; exact G2, B0⟩
    case round =>
      obtain ⟨k, hk, rfl, H1, H2, hB⟩ := hrel
      clear G1 G2 B0
      by_cases hlt : k < m
      · obtain ⟨x, hx⟩ : ∃ x, l[k]? = some x := ⟨l[k], List.getElem?_eq_getElem (by omega)⟩
        have T := (ROW.out.at2 hx).later hB
        have TI := HTi.out.later hB
        have c0 := T.c0
        have c1 := T.c1
        have c2 := T.c2
        have c3 := T.c3
        have c4 := T.c4
        have c5 := T.c5
        have c6 := T.c6
        have hi0 : (0 : Int) ≤ (k : Int) := by omega
        have hi1 : (k : Int) < (m : Int) := by omega
        have hi2 : (k : Int) < (l.length : Int) := by omega
        have HF := Lib.hid (HAT.out k x hx)
        have TI := Lib.hid TI
        have H1 := Lib.hid H1
        have H2 := Lib.hid H2
        have HB := Lib.hid hB
        clear T hx hB
        go_upto_region 7 with (fail)
        obtain ⟨W4, hW4, T4, D1, D2, hB4, hbt, hbl2, hns⟩ : ∃ W4, wr.alloc (.cells #[.string x.n, .int .i64 x.c, .int .i64 x.t, .int .i64 x.d, .int .i64 x.j, .int .i64 x.q, .int .i64 x.p] 40) = W4 ∧ TAt W4 wr.heap.size 0 x ∧ Box W4 w.heap.size noneF ∧ Box W4 (w.heap.size + 1) (cutF f k) ∧ Below w.heap.size w W4 ∧ wr.heap.size < W4.heap.size ∧ b < W4.heap.size ∧ w.heap.size ≤ W4.heap.size :=
          ⟨_, rfl, TAt.new wr x, H1.out.alloc _, H2.out.alloc _, HB.out.trans ((Below.refl _ _).alloc (Below.size HB.out) _), by simp, by have := Below.size HB.out; simp; omega, by have := Below.size HB.out; simp; omega⟩
        have x6 := (TI.out.later (Below.alloc (Below.refl _ _) (Nat.le_refl _) (.cells #[.string x.n, .int .i64 x.c, .int .i64 x.t, .int .i64 x.d, .int .i64 x.j, .int .i64 x.q, .int .i64 x.p] 40))).c6
        rw [hW4] at x6 ⊢
        have y6 : W4.cell? ⟨wr.heap.size, 6, none⟩ = some (.int .i64 x.p) := T4.c6
        clear hW4 c0 c1 c2 c3 c4 c5 c6 T4 H1 H2 HB
        generalize wr.heap.size = bt at *
        have D1 := Lib.hid D1
        have D2 := Lib.hid D2
        have hB4 := Lib.hid hB4
        have CL := Lib.hid (fun W => calls_same (higher1_any x.p xi.p W))
        have hn0 : (0 : Int) ≤ (n : Int) := by omega
        refine region_quiet_l (C := fun v => Below W4.heap.size W4 v) (by kernel_rfl) (by kernel_rfl) (below_drew _) ?_
        repeat (first
          | (refine wq_skip (by rfl) ?_; (try simp only [Act.put, List.setIfInBounds_toArray, List.set_cons_zero, List.set_cons_succ]))
          | (refine wq_val _ (by rfl) (by intro v hC; have z9 := (hC.cell (p := ⟨bt, 6, none⟩) hbt).trans y6; have zi := (hC.cell (p := ⟨b, o + n * 7 + 6, none⟩) hbl2).trans x6; clear hC; go_simp; (try rfl)) ?_; (try simp only [Act.put, List.setIfInBounds_toArray, List.set_cons_zero, List.set_cons_succ]))
          | (with_reducible fail))
        refine wq_call (fun W _ => CL.out W) lt_step (by rfl) (by intro v _; go_simp) ?_
        (try simp only [Act.put, List.setIfInBounds_toArray, List.set_cons_zero, List.set_cons_succ])
        refine wpQuiet_nil ?_
        intro W5 hW5
        have E1 := D1.out.later hW5
        have E2 := D2.out.later hW5
        have hB5 := Lib.hid (hB4.out.trans (hW5.mono hns))
        clear hW5 D1 D2 hB4 x6 y6
        cases hfk : f k
        · have h5 : decide (x.p < xi.p) = false := by rw [← HF.out]; exact hfk
          have HN := Lib.hid (cutF_no hfk)
          have E1 := Lib.hid E1
          have E2 := Lib.hid E2
          clear hfk
          rw [h5]
          go_wp2
          exact ⟨⟨k + 1, by omega, by go_num, E1.out, by rw [← HN.out]; exact E2.out, hB5.out⟩, by simp [intOf]; omega⟩
        · have h5 : decide (x.p < xi.p) = true := by rw [← HF.out]; exact hfk
          have hlt5 := of_decide_eq_true h5
          have HN := Lib.hid (cutF_yes hfk)
          have WI := Lib.hid (fun W => with_any (cutF f k) (k : Int) W (by omega) (by omega))
          clear hfk
          rw [h5]
          go_wp2_with (first
            | ((with_reducible show wpList _ _ _ (⟨some 39, _, _, _, _, _⟩ :: _) _ _); refine wpList_load_mid rfl 104 _ rfl _ _ rfl _ _ E2.range Tryz.underlying104 rfl (info26 _) ?_)
            | (go_at_call 102; (with_reducible refine (WI.out _).mono ?_); rintro e w6 ⟨rfl, h6⟩; have F1 := E1.later h6; have F2 := E2.later h6; have hB6 := Lib.hid (hB5.out.trans (h6.mono (Below.size hB5.out))); clear h6)
            | ((with_reducible show wpList _ _ _ (⟨none, Op.store 104 _ _, _, _, _, _⟩ :: _) _ _); refine wpList_store_mid rfl 104 _ _ rfl _ _ (cellsL (insMM (cutF f k) (k : Int))).toArray rfl rfl (F2.there _) (info26' _) (cellsL_all _) ?_))
          go_roundw
          case rel =>
            have HR : ∃ k' : Nat, k' ≤ m ∧ Value.int .i64 ((k : Int) + 1) = .int .i64 k' ∧ Box (w6.setCells (w.heap.size + 1) 0 (cellsL (insMM (cutF f k) (k : Int)))) w.heap.size noneF ∧ Box (w6.setCells (w.heap.size + 1) 0 (cellsL (insMM (cutF f k) (k : Int)))) (w.heap.size + 1) (cutF f k') ∧ Below w.heap.size w (w6.setCells (w.heap.size + 1) 0 (cellsL (insMM (cutF f k) (k : Int)))) := ⟨k + 1, by omega, by go_num, F1.setCells_other F2 _ (by omega), by rw [← HN.out]; exact F2.setCells _, below_setCells hB6.out F2 _ (by omega)⟩
            exact HR
          case measure => simp [intOf]; omega
      · obtain rfl : k = m := by omega
        have HB := Lib.hid hB
        clear hB
        go_wp2_with (first
          | ((with_reducible show wpList _ _ _ (⟨some 43, _, _, _, _, _⟩ :: _) _ _); refine wpList_load_mid rfl 104 _ rfl _ _ rfl _ _ H2.range Tryz.underlying104 rfl (info26 _) ?_)
          | ((with_reducible show wpList _ _ _ (⟨none, Op.store 104 _ _, _, _, _, _⟩ :: _) _ _); refine wpList_store_mid rfl 104 _ _ rfl _ _ (cellsL (cutF f k)).toArray rfl rfl (H1.there _) (info26' _) (cellsL_all _) ?_)
          | ((with_reducible show bodyPost _ _ _ _ _ _); exact bodyPost_ret (results_box rfl _ _ _ _ rfl (H1.setCells _)) rfl ⟨by rw [HEQ.out], below_setCells HB.out H1 _ (Nat.le_refl _)⟩))
  · have hno : pAt l i = none := pAt_none (by omega)
    rw [higherF_none hno]
    clear hno
    by_cases h0 : i < 0
    · clear hin
      go_enter Tryz.func77, Tryz.ntmps77
      go_upto_region 2 with (fail)
      rw [HW0.out]
      go_wp2_with (first
        | ((with_reducible show wpList _ _ _ (⟨some 18, _, _, _, _, _⟩ :: _) _ _); refine wpList_load_mid rfl 104 _ rfl _ _ rfl _ _ G2.range Tryz.underlying104 rfl (info26 _) ?_)
        | ((with_reducible show wpList _ _ _ (⟨none, Op.store 104 _ _, _, _, _, _⟩ :: _) _ _); refine wpList_store_mid rfl 104 _ _ rfl _ _ (cellsL noneF).toArray rfl rfl (G1.there _) (info26' _) (cellsL_all _) ?_)
        | ((with_reducible show bodyPost _ _ _ _ _ _); exact bodyPost_ret (results_box rfl _ _ _ _ rfl (G1.setCells _)) rfl ⟨rfl, below_setCells B0 G1 _ (Nat.le_refl _)⟩))
    · have h0' : decide (i < 0) = false := decide_eq_false h0
      have h1 : (l.length : Int) ≤ i := by omega
      clear hin
      go_enter Tryz.func77, Tryz.ntmps77
      go_upto_region 2 with (fail)
      rw [HW0.out]
      go_wp2_with (first
        | ((with_reducible show wpList _ _ _ (⟨some 18, _, _, _, _, _⟩ :: _) _ _); refine wpList_load_mid rfl 104 _ rfl _ _ rfl _ _ G2.range Tryz.underlying104 rfl (info26 _) ?_)
        | ((with_reducible show wpList _ _ _ (⟨none, Op.store 104 _ _, _, _, _, _⟩ :: _) _ _); refine wpList_store_mid rfl 104 _ _ rfl _ _ (cellsL noneF).toArray rfl rfl (G1.there _) (info26' _) (cellsL_all _) ?_)
        | ((with_reducible show bodyPost _ _ _ _ _ _); exact bodyPost_ret (results_box rfl _ _ _ _ rfl (G1.setCells _)) rfl ⟨rfl, below_setCells B0 G1 _ (Nat.le_refl _)⟩))

set_option maxRecDepth 100000 in
set_option maxHeartbeats 4000000 in
theorem thigher_any (A : Option Addr) (cap : Nat) (l : List Ts) (i : Int) (w : World) (hR : Row w A cap l) (hi : in64 i) :
    Calls Tryz.prog 55 #[.slice A l.length cap, .int .i64 i] w fun e w' => e = .returned (setV (higherF l i)) ∧ Below w.heap.size w w' := by
  have b1 := zero_box w
  have hb := (Below.refl w.heap.size w).alloc (Nat.le_refl _) (.cells #[.int .u64 0, .int .u64 0, .int .u64 0, .int .u64 0, .int .u64 0, .int .u64 0, .int .u64 0, .int .u64 0, .int .u64 0, .int .u64 0, .int .u64 0, .int .u64 0, .int .u64 0, .int .u64 0, .int .u64 0, .int .u64 0] 104)
  have WH := Lib.hid (fun W hR => where_higher A cap l i W hR hi)
  have ROW := Lib.hid (hR.later hb)
  clear hR
  go_enter Tryz.func55, Tryz.ntmps55
  go_upto_region 1 with (fail)
  generalize w.alloc (.cells #[.int .u64 0, .int .u64 0, .int .u64 0, .int .u64 0, .int .u64 0, .int .u64 0, .int .u64 0, .int .u64 0, .int .u64 0, .int .u64 0, .int .u64 0, .int .u64 0, .int .u64 0, .int .u64 0, .int .u64 0, .int .u64 0] 104) = W1 at *
  go_wp2_with (first
    | (go_at_call 77; (with_reducible refine (WH.out _ ROW.out).mono ?_); rintro e w2 ⟨rfl, h2⟩; have b2 := b1.later h2; have hb2 := hb.trans (h2.mono hb.size))
    | ((with_reducible show wpList _ _ _ (⟨none, Op.store 104 _ _, _, _, _, _⟩ :: _) _ _); refine wpList_store_mid rfl 104 _ _ rfl _ _ (cellsL (higherF l i)).toArray rfl rfl (b2.there _) (info26' _) (cellsL_all _) ?_)
    | ((with_reducible show bodyPost _ _ _ _ _ _); exact bodyPost_ret (results_box rfl _ _ _ _ rfl (b2.setCells _)) rfl ⟨rfl, below_setCells hb2 b2 _ (Nat.le_refl _)⟩))

end Go.Proofs.YtnhddnldebdmbaaGreatDoor
/- The tasks at some places, told one by one: an iterator over an iterator. -/
namespace Go.Proofs.YtnhddnldebdmbaaGreatDoor
open Go.RowKit Go.Shelf
set_option linter.unusedVariables false
set_option linter.unusedSimpArgs false
attribute [local go_sem] Oper.semAt_some
abbrev tskV (x : Ts) : Array Value := #[tsV x]
/-- The tasks at these places. -/
def tksAt (l : List Ts) (f : Nat → Bool) : List Ts := (nums f).filterMap (fun k => l[k]?)
theorem at_any (A : Option Addr) (n cap : Nat) (f : Nat → Bool) (w : World) :
    Calls Tryz.prog 98 #[.slice A n cap, setV f] w fun e w' => e = .returned (.func (.func 120) #[] #[.pointer (some ⟨w.heap.size + 1, 0, none⟩), .pointer (some ⟨w.heap.size, 0, none⟩)]) ∧ w' = (w.alloc (.cells #[.slice A n cap] 25)).alloc (.cells (cellsL f).toArray 104) := by
  have hmf : ∀ (fn : Fn) (first cap : Array Value) (w : World), (Instr.makeFunc fn first cap).run Tryz.prog w = .ok (.func fn first cap) w := fun _ _ _ _ => rfl
  go_enter Tryz.func98, Tryz.ntmps98
  go_wp2
  go_ret
  simp [World.size_alloc]
/-- What the iterator leans on. -/
structure AtS (w : World) (A : Option Addr) (cap : Nat) (l : List Ts) (f : Nat → Bool) (bs bl : Nat) : Prop where
  st : Box w bs f
  lb : Boxed w bl 25 (.slice A l.length cap)
  rw_ : Row w A cap l
  tb : Tab w
  in_ : ∀ k, f k = true → k < l.length
/-- And what a round keeps of it. -/
structure AtP (P : Nat → TypeId → Prop) (A : Option Addr) (bl : Nat) : Prop where
  s : ∀ k, P k 104
  y : ∀ k, P k 130
  l : ∀ T, P bl T
  t : ∀ T, P 0 T
  r : ∀ b o, A = some ⟨b, o, none⟩ → ∀ T, P b T
theorem Row.keepG {P : Nat → TypeId → Prop} {A : Option Addr} {cap : Nat} {l : List Ts} {w w' : World} (h : Row w A cap l) (hk : KeepG P w w') (hr : ∀ b o, A = some ⟨b, o, none⟩ → ∀ T, P b T) : Row w' A cap l :=
  ⟨h.le, h.mx, h.wf, fun i x hx => by
    obtain ⟨b, o, e, ht⟩ := h.at_ i x hx
    exact ⟨b, o, e, ⟨fun j v hv => hk.cell (ht.r j v hv) (hr b o e)⟩⟩⟩
theorem AtS.keep {P : Nat → TypeId → Prop} {A : Option Addr} {cap bs bl : Nat} {l : List Ts} {f : Nat → Bool} {w w' : World} (h : AtS w A cap l f bs bl) (hP : AtP P A bl) (hk : KeepG P w w') : AtS w' A cap l f bs bl :=
  ⟨hk.box h.st (hP.s _), hk.boxed h.lb (hP.l _), h.rw_.keepG hk hP.r, hk.tab h.tb hP.t, h.in_⟩
theorem AtS.later {A : Option Addr} {cap bs bl : Nat} {l : List Ts} {f : Nat → Bool} {w w' : World} (h : AtS w A cap l f bs bl) (hb : Below w.heap.size w w') : AtS w' A cap l f bs bl :=
  h.keep (P := fun _ _ => True) ⟨fun _ => trivial, fun _ => trivial, fun _ => trivial, fun _ => trivial, fun _ _ _ _ => trivial⟩ (KeepG.below hb)
theorem keepG_grown {W W' : World} {row : Option Nat} (hg : W.grownBy W' row) (hr : ∀ r, row = some r → ∃ o : Obj, W.heap[r]? = some o ∧ o.isCells = false) : KeepG (fun _ _ => True) W W' :=
  ⟨hg.size, fun k cs T fr _ hi => (grownBy_keeps_cells hg hr hi rfl).trans hi⟩
theorem AtS.own {A : Option Addr} {cap bs bl : Nat} {l : List Ts} {f : Nat → Bool} {w w' : World} {row : Option Nat} (h : AtS w A cap l f bs bl) (hg : w.grownBy w' row) (hr : ∀ r, row = some r → ∃ o : Obj, w.heap[r]? = some o ∧ o.isCells = false) : AtS w' A cap l f bs bl :=
  h.keep (P := fun _ _ => True) ⟨fun _ => trivial, fun _ => trivial, fun _ => trivial, fun _ => trivial, fun _ _ _ _ => trivial⟩ (keepG_grown hg hr)
theorem own_below {β : Type} {B : Nat} {J : β → World → Prop} (h : OwnFrom B J) {s : β} {W W' : World} (hs : J s W) (hb : Below W.heap.size W W') : J s W' :=
  h s W W' none hs ⟨hb.os, hb.tape, hb.output, hb.size, fun k hk _ => hb.block k hk⟩ (fun r e => by cases e)

set_option maxRecDepth 100000 in
set_option maxHeartbeats 4000000 in
theorem at1_seq (n : Nat) (hn1 : 3 ≤ n) (A : Option Addr) (cap : Nat) (l : List Ts) (f : Nat → Bool) (bs bl : Nat) (P : Nat → TypeId → Prop) (w : World) (hS : AtS w A cap l f bs bl) (hP : AtP P A bl) :
    SeqG tskV n 120 #[.pointer (some ⟨bs, 0, none⟩), .pointer (some ⟨bl, 0, none⟩)] P (tksAt l f) w := by
  intro lp J Jx W hW hO hOx hY hJ
  have S0 := hS.later hW
  clear hS
  obtain ⟨W1, hW1, Y1, S1, J1, s1⟩ : ∃ W1, W.alloc (.cells #[.func (.yield lp) #[] #[]] 130) = W1 ∧ Boxed W1 W.heap.size 130 (.func (.yield lp) #[] #[]) ∧ AtS W1 A cap l f bs bl ∧ J [] W1 ∧ W1.heap.size = W.heap.size + 1 :=
    ⟨_, rfl, Boxed.new _ _ _, S0.later ((Below.refl _ _).alloc (Nat.le_refl _) _), hO.alloc _ hJ, by simp⟩
  have ALL := Lib.hid (fun W => all_any f W)
  obtain ⟨W2, hW2, Y2, S2, J2, s2, B2⟩ : ∃ W2, W1.alloc (.cells (cellsL f).toArray 104) = W2 ∧ Boxed W2 W.heap.size 130 (.func (.yield lp) #[] #[]) ∧ AtS W2 A cap l f bs bl ∧ J [] W2 ∧ W2.heap.size = W1.heap.size + 1 ∧ Box W2 W1.heap.size f :=
    ⟨_, rfl, Boxed.alloc Y1 _, S1.later ((Below.refl _ _).alloc (Nat.le_refl _) _), hO.alloc _ J1, by simp, Box.new _ _⟩
  have BS := Lib.hid (S1.st)
  have HL := Lib.hid S0.in_
  clear S0 S1 Y1 J1 hJ
  rw [s1] at B2
  refine callsIn_of_wp_marks Tryz.func120 rfl trivial ?_ rfl
  simp only [Tryz.ntmps120, List.size_toArray, List.length_cons, List.length_nil, Nat.reduceAdd, Nat.reduceSub, Array.replicate_succ, Array.replicate_zero, List.push_toArray, List.append_toArray, List.nil_append, List.cons_append]
  refine wpIn_wide.2 ?_
  go_upto_region 1 with (fail)
  try rw [hW1]
  clear hW1
  have K0 := ALL.out W1
  go_upto_region 3 with (first
    | ((with_reducible show wpList _ _ _ (⟨some 5, _, _, _, _, _⟩ :: _) _ _); refine wpList_load_mid rfl 104 _ rfl _ _ rfl _ _ BS.out.range Tryz.underlying104 rfl (info26 _) ?_)
    | (go_at_call 56; refine K0.mono ?_; rintro e w' ⟨rfl, rfl⟩))
  try rw [hW2]
  try rw [s1]
  clear hW2 BS ALL
  have hs2 : W.heap.size ≤ W2.heap.size := by omega
  clear s1 s2
  refine (wpIn_wide (n := n)).1 ?_
  obtain ⟨yb, hyb⟩ : ∃ yb, W.heap.size = yb := ⟨_, rfl⟩
  have HYB := Lib.hid hyb
  rw [hyb] at Y2 B2 ⊢
  have hO2 := own_up hO hs2
  have hOx2 := own_up hOx hs2
  have SQ := all2_seq (n - 1) (by omega) f (yb + 1) P W2 B2 S2.tb (hP.s _) hP.t
  have B3 := B2.lt
  clear hyb
  refine rangeG (vals := numV) (gf := 79) (lb := #[.pointer (some ⟨yb + 1, 0, none⟩)]) rfl (enters_of Tryz.func79 (by kernel_rfl) rfl)
    SQ (Below.refl _ _) (fun _ => rfl)
    (fun pre V => J (pre.filterMap (fun k => l[k]?)) V ∧ Boxed V yb 130 (.func (.yield lp) #[] #[]) ∧ AtS V A cap l f bs bl)
    (fun c pre V => c = .ret ∧ Jx (pre.filterMap (fun k => l[k]?)) V)
    (fun pre X Y row hs hg hr => ⟨hO2 _ X Y row hs.1 hg hr, boxed_kept hs.2.1 hg (fun r e => (hr r e).2), hs.2.2.own hg (fun r e => (hr r e).2)⟩)
    (fun c pre X Y row hs hg hr => ⟨hs.1, hOx2 _ X Y row hs.2 hg hr⟩)
    ⟨J2, Y2, S2⟩
    (fun x a' V => a' = { tmps := #[.func (.yield lp) #[] #[], .pointer (some ⟨bs, 0, none⟩), .pointer (some ⟨bl, 0, none⟩), .pointer (some ⟨yb, 0, none⟩), .int .i64 (x : Int), setV f, .func (.func 79) #[] #[.pointer (some ⟨yb + 1, 0, none⟩)], .int .i64 (x : Int), undef, undef, undef, undef, undef, undef, undef], defers := [] })
    (fun x a' _ X Y row hs hg hr => hs)
    ?assign ?body ?done ?stop
  case assign =>
    intro l2 pre x V K hi hK
    gi_wp2
    exact hK _ _ (KeepsFrom.refl _ _) (KeepG.refl _ _) hi rfl
  case body =>
    rintro l2 pre x a' V ⟨hj, hy2, hs⟩ rfl ⟨r, hr⟩
    have hf : f x = true := ((mem_nums f x).1 (by rw [hr]; simp)).2
    have hx := hs.in_ x hf
    obtain ⟨b, o, y, rfl, hly, hyw, hbl, hT⟩ := hs.rw_.get hx
    have hL : tksAt l f = pre.filterMap (fun k => l[k]?) ++ y :: r.filterMap (fun k => l[k]?) := by
      unfold tksAt
      rw [hr, List.filterMap_append, List.filterMap_cons, hly]
    have hpx : (pre ++ [x]).filterMap (fun k => l[k]?) = pre.filterMap (fun k => l[k]?) ++ [y] := by
      rw [List.filterMap_append, List.filterMap_cons, hly]; rfl
    have HPX := Lib.hid hpx
    clear hpx hr
    obtain ⟨pr, hpr⟩ : ∃ pr, pre.filterMap (fun k => l[k]?) = pr := ⟨_, rfl⟩
    rw [hpr] at hL HPX hj
    obtain ⟨fn, tmps, assign, body, hy, hR⟩ := hY pr y _ V.drew (own_below hO2 hj (below_drew V)) hL
    have HR : Hid (RoundIn (Fence.wide.inRound l2) (n - 1 - 1 - 1) Tryz.prog lp fn tmps assign body V.drew fun e V2 => ∃ q : Bool, e = .returned (.bool q) ∧ Hid ((q = true ∧ J (pr ++ [y]) V2 ∧ KeepG P V.drew V2 ∧ KeepsFrom W.heap.size V.drew V2) ∨ (q = false ∧ Jx (pr ++ [y]) V2 ∧ KeepsFrom W.heap.size V.drew V2))) := Lib.hid ((round_any hR).mono fun e V2 h => by
      rcases h with ⟨rfl, h⟩ | ⟨rfl, h⟩
      · exact ⟨true, rfl, .inl ⟨rfl, h⟩⟩
      · exact ⟨false, rfl, .inr ⟨rfl, h⟩⟩)
    have HLL := Lib.hid hL
    clear hY hR hL
    simp only [tskV] at hy
    have cy := hy2.cell
    have cl := hs.lb.cell
    have c0 := hT.c0
    have c1 := hT.c1
    have c2 := hT.c2
    have c3 := hT.c3
    have c4 := hT.c4
    have c5 := hT.c5
    have c6 := hT.c6
    have i0 : (0 : Int) ≤ (x : Int) := by omega
    have i1 : (x : Int) < (l.length : Int) := by omega
    have HS := Lib.hid hs
    clear hs hT
    gi_wp2
    gi_region_with (first | (refine ⟨fun _ => by omega, HR.out.mono ?_⟩; rintro e V2 ⟨q, rfl, HQ⟩) | fail)
    all_goals
      have kd : KeepG P V V.drew := KeepG.below (below_drew V)
      have fd : KeepsFrom W2.heap.size V V.drew := (KeepsOthers.drew _).from _
      rcases HQ.out with ⟨rfl, hj', hk', hf'⟩ | ⟨rfl, hx', hf'⟩
      · gi_wp2
        have kk := kd.trans hk'
        refine ⟨fd.trans (keepsFrom_up hf' hs2), kk, ?_, kk.boxed hy2 (hP.y _), HS.out.keep hP kk⟩
        rw [HPX.out]; exact hj'
      · gi_wp2
        refine ⟨fd.trans (keepsFrom_up hf' hs2), rfl, ?_⟩
        rw [HPX.out]; exact hx'
  case done =>
    rintro D V hD ⟨hj, hy2, hs⟩ hK
    gi_wp2
    refine ⟨by simp, .inl ⟨_, _, rfl, run_takeDeferred hK, ?_⟩⟩
    exact ⟨_, results_none rfl _ _ _, ⟨_, rfl⟩, .inl (hO.putObj _ hj (by omega) hK rfl)⟩
  case stop =>
    rintro D c pre x V hD ⟨r, hr⟩ ⟨rfl, hc⟩ hK
    have hf : f x = true := ((mem_nums f x).1 (by rw [hr]; simp)).2
    have hx := HL.out x hf
    gi_wp2
    refine ⟨by simp, .inl ⟨_, _, rfl, run_takeDeferred hK, ?_⟩⟩
    refine ⟨_, results_none rfl _ _ _, ⟨_, rfl⟩, .inr ⟨pre.filterMap (fun k => l[k]?), l[x], r.filterMap (fun k => l[k]?), ?_, ?_⟩⟩
    · unfold tksAt
      rw [hr, List.filterMap_append, List.filterMap_cons, List.getElem?_eq_getElem hx]
    · have hpx : (pre ++ [x]).filterMap (fun k => l[k]?) = pre.filterMap (fun k => l[k]?) ++ [l[x]] := by
        rw [List.filterMap_append, List.filterMap_cons, List.getElem?_eq_getElem hx]; rfl
      rw [← hpx]
      exact hOx.putObj _ hc (by omega) hK rfl
end Go.Proofs.YtnhddnldebdmbaaGreatDoor
/- Lower: its contract. -/
namespace Go.Proofs.YtnhddnldebdmbaaGreatDoor
open Go.RowKit
set_option linter.unusedVariables false
set_option linter.unusedSimpArgs false

set_option maxRecDepth 100000 in
set_option maxHeartbeats 8000000 in
theorem where_lower (A : Option Addr) (cap : Nat) (l : List Ts) (i : Int) (w : World) (hR : Row w A cap l) (hi : in64 i) :
    Calls Tryz.prog 77 #[.slice A l.length cap, .int .i64 i, .func (.func 121) #[] #[]] w fun e w' => e = .returned (setV (lowerF l i)) ∧ Below w.heap.size w w' := by
  have hle := hR.le
  have hmx := hR.mx
  obtain ⟨W0, hW0, G1, G2, B0⟩ := two_zero w
  have HW0 := Lib.hid hW0
  have ROW := Lib.hid hR
  clear hW0 hR
  by_cases hin : 0 ≤ i ∧ i < (l.length : Int)
  · obtain ⟨h0, h1⟩ := hin
    have h0' : decide (i < 0) = false := decide_eq_false (by omega)
    have h1' : decide (i ≥ (l.length : Int)) = false := decide_eq_false (by omega)
    have h1'' : decide ((l.length : Int) ≤ i) = false := decide_eq_false (by omega)
    obtain ⟨n, rfl⟩ := Int.eq_ofNat_of_zero_le h0
    obtain ⟨m, hm⟩ : ∃ m, m = min l.length 1024 := ⟨_, rfl⟩
    have hmin : min (l.length : Int) 1024 = (m : Int) := by omega
    have HM := Lib.hid hm
    have hml : m ≤ l.length := by omega
    have hm1 : m ≤ 1024 := by omega
    clear hm
    obtain ⟨b, o, xi, rfl, hxi, hwi, hbl, hTi⟩ := ROW.out.get (k := n) (by omega)
    have HP := Lib.hid (pAt_some hxi)
    have HTi := Lib.hid hTi
    clear hxi hwi hTi
    obtain ⟨f, hf⟩ : ∃ f, lowerF l (n : Int) = f := ⟨_, rfl⟩
    have hfar : ∀ k, l.length ≤ k → f k = false := fun k hk => by rw [← hf]; exact lowerF_far hk
    have hat : ∀ k x, l[k]? = some x → f k = decide (xi.p < x.p) := fun k x hx => by rw [← hf]; exact lowerF_at HP.out hx
    rw [hf]
    have HEQ := Lib.hid (setV_cut hfar HM.out)
    have HAT := Lib.hid hat
    clear hf hfar hat
    have hmc : (m : Int) ≤ (cap : Int) := by omega
    have h1N : decide (l.length ≤ n) = false := decide_eq_false (by omega)
    go_enter Tryz.func77, Tryz.ntmps77
    go_upto_region 2 with (fail)
    rw [HW0.out]
    clear HW0
    go_wp2
    go_loopw [25] (fun s wr => ∃ k : Nat, k ≤ m ∧ s = .int .i64 k ∧ Box wr w.heap.size noneF ∧ Box wr (w.heap.size + 1) (cutF f k) ∧ Below w.heap.size w wr) (fun s _ => m - (intOf s).toNat)
    case atStart => exact ⟨0, Nat.zero_le _, rfl, G1, by rw [cutF_zero]; exact G2, B0⟩
    case round =>
      obtain ⟨k, hk, rfl, H1, H2, hB⟩ := hrel
      clear G1 G2 B0
      by_cases hlt : k < m
      · obtain ⟨x, hx⟩ : ∃ x, l[k]? = some x := ⟨l[k], List.getElem?_eq_getElem (by omega)⟩
        have T := (ROW.out.at2 hx).later hB
        have TI := HTi.out.later hB
        have c0 := T.c0
        have c1 := T.c1
        have c2 := T.c2
        have c3 := T.c3
        have c4 := T.c4
        have c5 := T.c5
        have c6 := T.c6
        have hi0 : (0 : Int) ≤ (k : Int) := by omega
        have hi1 : (k : Int) < (m : Int) := by omega
        have hi2 : (k : Int) < (l.length : Int) := by omega
        have HF := Lib.hid (HAT.out k x hx)
        have TI := Lib.hid TI
        have H1 := Lib.hid H1
        have H2 := Lib.hid H2
        have HB := Lib.hid hB
        clear T hx hB
        go_upto_region 7 with (fail)
        obtain ⟨W4, hW4, T4, D1, D2, hB4, hbt, hbl2, hns⟩ : ∃ W4, wr.alloc (.cells #[.string x.n, .int .i64 x.c, .int .i64 x.t, .int .i64 x.d, .int .i64 x.j, .int .i64 x.q, .int .i64 x.p] 40) = W4 ∧ TAt W4 wr.heap.size 0 x ∧ Box W4 w.heap.size noneF ∧ Box W4 (w.heap.size + 1) (cutF f k) ∧ Below w.heap.size w W4 ∧ wr.heap.size < W4.heap.size ∧ b < W4.heap.size ∧ w.heap.size ≤ W4.heap.size :=
          ⟨_, rfl, TAt.new wr x, H1.out.alloc _, H2.out.alloc _, HB.out.trans ((Below.refl _ _).alloc (Below.size HB.out) _), by simp, by have := Below.size HB.out; simp; omega, by have := Below.size HB.out; simp; omega⟩
        have x6 := (TI.out.later (Below.alloc (Below.refl _ _) (Nat.le_refl _) (.cells #[.string x.n, .int .i64 x.c, .int .i64 x.t, .int .i64 x.d, .int .i64 x.j, .int .i64 x.q, .int .i64 x.p] 40))).c6
        rw [hW4] at x6 ⊢
        have y6 : W4.cell? ⟨wr.heap.size, 6, none⟩ = some (.int .i64 x.p) := T4.c6
        clear hW4 c0 c1 c2 c3 c4 c5 c6 T4 H1 H2 HB
        generalize wr.heap.size = bt at *
        have D1 := Lib.hid D1
        have D2 := Lib.hid D2
        have hB4 := Lib.hid hB4
        have CL := Lib.hid (fun W => calls_same (lower1_any x.p xi.p W))
        have hn0 : (0 : Int) ≤ (n : Int) := by omega
        refine region_quiet_l (C := fun v => Below W4.heap.size W4 v) (by kernel_rfl) (by kernel_rfl) (below_drew _) ?_
        repeat (first
          | (refine wq_skip (by rfl) ?_; (try simp only [Act.put, List.setIfInBounds_toArray, List.set_cons_zero, List.set_cons_succ]))
          | (refine wq_val _ (by rfl) (by intro v hC; have z9 := (hC.cell (p := ⟨bt, 6, none⟩) hbt).trans y6; have zi := (hC.cell (p := ⟨b, o + n * 7 + 6, none⟩) hbl2).trans x6; clear hC; go_simp; (try rfl)) ?_; (try simp only [Act.put, List.setIfInBounds_toArray, List.set_cons_zero, List.set_cons_succ]))
          | (with_reducible fail))
        refine wq_call (fun W _ => CL.out W) lt_step (by rfl) (by intro v _; go_simp) ?_
        (try simp only [Act.put, List.setIfInBounds_toArray, List.set_cons_zero, List.set_cons_succ])
        refine wpQuiet_nil ?_
        intro W5 hW5
        have E1 := D1.out.later hW5
        have E2 := D2.out.later hW5
        have hB5 := Lib.hid (hB4.out.trans (hW5.mono hns))
        clear hW5 D1 D2 hB4 x6 y6
        cases hfk : f k
        · have h5 : decide (xi.p < x.p) = false := by rw [← HF.out]; exact hfk
          have HN := Lib.hid (cutF_no hfk)
          have E1 := Lib.hid E1
          have E2 := Lib.hid E2
          clear hfk
          rw [h5]
          go_wp2
          exact ⟨⟨k + 1, by omega, by go_num, E1.out, by rw [← HN.out]; exact E2.out, hB5.out⟩, by simp [intOf]; omega⟩
        · have h5 : decide (xi.p < x.p) = true := by rw [← HF.out]; exact hfk
          have hlt5 := of_decide_eq_true h5
          have HN := Lib.hid (cutF_yes hfk)
          have WI := Lib.hid (fun W => with_any (cutF f k) (k : Int) W (by omega) (by omega))
          clear hfk
          rw [h5]
          go_wp2_with (first
            | ((with_reducible show wpList _ _ _ (⟨some 39, _, _, _, _, _⟩ :: _) _ _); refine wpList_load_mid rfl 104 _ rfl _ _ rfl _ _ E2.range Tryz.underlying104 rfl (info26 _) ?_)
            | (go_at_call 102; (with_reducible refine (WI.out _).mono ?_); rintro e w6 ⟨rfl, h6⟩; have F1 := E1.later h6; have F2 := E2.later h6; have hB6 := Lib.hid (hB5.out.trans (h6.mono (Below.size hB5.out))); clear h6)
            | ((with_reducible show wpList _ _ _ (⟨none, Op.store 104 _ _, _, _, _, _⟩ :: _) _ _); refine wpList_store_mid rfl 104 _ _ rfl _ _ (cellsL (insMM (cutF f k) (k : Int))).toArray rfl rfl (F2.there _) (info26' _) (cellsL_all _) ?_))
          go_roundw
          case rel =>
            have HR : ∃ k' : Nat, k' ≤ m ∧ Value.int .i64 ((k : Int) + 1) = .int .i64 k' ∧ Box (w6.setCells (w.heap.size + 1) 0 (cellsL (insMM (cutF f k) (k : Int)))) w.heap.size noneF ∧ Box (w6.setCells (w.heap.size + 1) 0 (cellsL (insMM (cutF f k) (k : Int)))) (w.heap.size + 1) (cutF f k') ∧ Below w.heap.size w (w6.setCells (w.heap.size + 1) 0 (cellsL (insMM (cutF f k) (k : Int)))) := ⟨k + 1, by omega, by go_num, F1.setCells_other F2 _ (by omega), by rw [← HN.out]; exact F2.setCells _, below_setCells hB6.out F2 _ (by omega)⟩
            exact HR
          case measure => simp [intOf]; omega
      · obtain rfl : k = m := by omega
        have HB := Lib.hid hB
        clear hB
        go_wp2_with (first
          | ((with_reducible show wpList _ _ _ (⟨some 43, _, _, _, _, _⟩ :: _) _ _); refine wpList_load_mid rfl 104 _ rfl _ _ rfl _ _ H2.range Tryz.underlying104 rfl (info26 _) ?_)
          | ((with_reducible show wpList _ _ _ (⟨none, Op.store 104 _ _, _, _, _, _⟩ :: _) _ _); refine wpList_store_mid rfl 104 _ _ rfl _ _ (cellsL (cutF f k)).toArray rfl rfl (H1.there _) (info26' _) (cellsL_all _) ?_)
          | ((with_reducible show bodyPost _ _ _ _ _ _); exact bodyPost_ret (results_box rfl _ _ _ _ rfl (H1.setCells _)) rfl ⟨by rw [HEQ.out], below_setCells HB.out H1 _ (Nat.le_refl _)⟩))
  · have hno : pAt l i = none := pAt_none (by omega)
    rw [lowerF_none hno]
    clear hno
    by_cases h0 : i < 0
    · clear hin
      go_enter Tryz.func77, Tryz.ntmps77
      go_upto_region 2 with (fail)
      rw [HW0.out]
      go_wp2_with (first
        | ((with_reducible show wpList _ _ _ (⟨some 18, _, _, _, _, _⟩ :: _) _ _); refine wpList_load_mid rfl 104 _ rfl _ _ rfl _ _ G2.range Tryz.underlying104 rfl (info26 _) ?_)
        | ((with_reducible show wpList _ _ _ (⟨none, Op.store 104 _ _, _, _, _, _⟩ :: _) _ _); refine wpList_store_mid rfl 104 _ _ rfl _ _ (cellsL noneF).toArray rfl rfl (G1.there _) (info26' _) (cellsL_all _) ?_)
        | ((with_reducible show bodyPost _ _ _ _ _ _); exact bodyPost_ret (results_box rfl _ _ _ _ rfl (G1.setCells _)) rfl ⟨rfl, below_setCells B0 G1 _ (Nat.le_refl _)⟩))
    · have h0' : decide (i < 0) = false := decide_eq_false h0
      have h1 : (l.length : Int) ≤ i := by omega
      clear hin
      go_enter Tryz.func77, Tryz.ntmps77
      go_upto_region 2 with (fail)
      rw [HW0.out]
      go_wp2_with (first
        | ((with_reducible show wpList _ _ _ (⟨some 18, _, _, _, _, _⟩ :: _) _ _); refine wpList_load_mid rfl 104 _ rfl _ _ rfl _ _ G2.range Tryz.underlying104 rfl (info26 _) ?_)
        | ((with_reducible show wpList _ _ _ (⟨none, Op.store 104 _ _, _, _, _, _⟩ :: _) _ _); refine wpList_store_mid rfl 104 _ _ rfl _ _ (cellsL noneF).toArray rfl rfl (G1.there _) (info26' _) (cellsL_all _) ?_)
        | ((with_reducible show bodyPost _ _ _ _ _ _); exact bodyPost_ret (results_box rfl _ _ _ _ rfl (G1.setCells _)) rfl ⟨rfl, below_setCells B0 G1 _ (Nat.le_refl _)⟩))

set_option maxRecDepth 100000 in
set_option maxHeartbeats 4000000 in
theorem tlower_any (A : Option Addr) (cap : Nat) (l : List Ts) (i : Int) (w : World) (hR : Row w A cap l) (hi : in64 i) :
    Calls Tryz.prog 99 #[.slice A l.length cap, .int .i64 i] w fun e w' => e = .returned (setV (lowerF l i)) ∧ Below w.heap.size w w' := by
  have b1 := zero_box w
  have hb := (Below.refl w.heap.size w).alloc (Nat.le_refl _) (.cells #[.int .u64 0, .int .u64 0, .int .u64 0, .int .u64 0, .int .u64 0, .int .u64 0, .int .u64 0, .int .u64 0, .int .u64 0, .int .u64 0, .int .u64 0, .int .u64 0, .int .u64 0, .int .u64 0, .int .u64 0, .int .u64 0] 104)
  have WH := Lib.hid (fun W hR => where_lower A cap l i W hR hi)
  have ROW := Lib.hid (hR.later hb)
  clear hR
  go_enter Tryz.func99, Tryz.ntmps99
  go_upto_region 1 with (fail)
  generalize w.alloc (.cells #[.int .u64 0, .int .u64 0, .int .u64 0, .int .u64 0, .int .u64 0, .int .u64 0, .int .u64 0, .int .u64 0, .int .u64 0, .int .u64 0, .int .u64 0, .int .u64 0, .int .u64 0, .int .u64 0, .int .u64 0, .int .u64 0] 104) = W1 at *
  go_wp2_with (first
    | (go_at_call 77; (with_reducible refine (WH.out _ ROW.out).mono ?_); rintro e w2 ⟨rfl, h2⟩; have b2 := b1.later h2; have hb2 := hb.trans (h2.mono hb.size))
    | ((with_reducible show wpList _ _ _ (⟨none, Op.store 104 _ _, _, _, _, _⟩ :: _) _ _); refine wpList_store_mid rfl 104 _ _ rfl _ _ (cellsL (lowerF l i)).toArray rfl rfl (b2.there _) (info26' _) (cellsL_all _) ?_)
    | ((with_reducible show bodyPost _ _ _ _ _ _); exact bodyPost_ret (results_box rfl _ _ _ _ rfl (b2.setCells _)) rfl ⟨rfl, below_setCells hb2 b2 _ (Nat.le_refl _)⟩))

end Go.Proofs.YtnhddnldebdmbaaGreatDoor
/- What blocks: the program's own. -/
namespace Go.Proofs.YtnhddnldebdmbaaGreatDoor
open Go.RowKit Go.Shelf
set_option linter.unusedVariables false
set_option linter.unusedSimpArgs false
attribute [local go_sem] Oper.semAt_some
theorem wpIn_named {F : Fence} {n : Nat} {P : Program} {c : Code} {Q : Exit → Act → World → Prop} {a : Act} {w : World} (h : ∀ a', a' = a → Code.wpIn F n P c Q a' w) : Code.wpIn F n P c Q a w := h a rfl
theorem fm_congr {α β : Type} {f g : α → Option β} : ∀ {l : List α}, (∀ x ∈ l, f x = g x) → l.filterMap f = l.filterMap g
  | [], _ => rfl
  | a :: l, h => by
    rw [List.filterMap_cons, List.filterMap_cons, h a (by simp), fm_congr (l := l) (fun x hx => h x (by simp [hx]))]
/-! ### The tasks at places that hang on the tasks alone -/
theorem tks_range (g : Ts → Bool) : ∀ (l : List Ts) (a n : Nat), l.length ≤ n → ((List.range' a n).filter (fun k => (l[k - a]?).elim false g)).filterMap (fun k => l[k - a]?) = l.filter g
  | [], a, n, _ => by
    rw [List.filter_eq_nil_iff.2 (by simp)]
    rfl
  | x :: l, a, 0, h => by simp at h
  | x :: l, a, n + 1, h => by
    have ih := tks_range g l (a + 1) n (by simpa using h)
    have c1 : (List.range' (a + 1) n).filter (fun k => ((x :: l)[k - a]?).elim false g) = (List.range' (a + 1) n).filter (fun k => (l[k - (a + 1)]?).elim false g) := List.filter_congr fun k hk => by
      have := (List.mem_range'_1.1 hk).1
      rw [show k - a = (k - (a + 1)) + 1 by omega, List.getElem?_cons_succ]
    have c2 : ((List.range' (a + 1) n).filter (fun k => (l[k - (a + 1)]?).elim false g)).filterMap (fun k => (x :: l)[k - a]?) = ((List.range' (a + 1) n).filter (fun k => (l[k - (a + 1)]?).elim false g)).filterMap (fun k => l[k - (a + 1)]?) := fm_congr fun k hk => by
      have := (List.mem_range'_1.1 (List.mem_filter.1 hk).1).1
      rw [show k - a = (k - (a + 1)) + 1 by omega, List.getElem?_cons_succ]
    rw [List.range'_succ, List.filter_cons]
    simp only [Nat.sub_self, List.getElem?_cons_zero, Option.elim_some]
    rw [c1, List.filter_cons]
    cases hg : g x
    · simp only [Bool.false_eq_true, if_false]
      rw [c2, ih]
    · simp only [if_true]
      rw [List.filterMap_cons]
      simp only [Nat.sub_self, List.getElem?_cons_zero]
      rw [c2, ih]
theorem tksAt_eq {l : List Ts} {f : Nat → Bool} (g : Ts → Bool) (h : ∀ k, f k = (l[k]?).elim false g) (hl : l.length ≤ 1024) : tksAt l f = l.filter g := by
  have := tks_range g l 0 1024 hl
  simp only [Nat.sub_zero] at this
  rw [← this]
  unfold tksAt nums numsIn
  rw [show f = fun k => (l[k]?).elim false g from funext h]
theorem vs_len {l : List Ts} (h : Vs l) : l.length ≤ 1024 := by have := h.n1; omega
theorem lower_tks {l : List Ts} {k : Nat} {y : Ts} (hv : Vs l) (hy : l[k]? = some y) : tksAt l (lowerF l (k : Int)) = l.filter (fun x => decide (y.p < x.p)) :=
  tksAt_eq _ (fun j => by
    unfold lowerF
    rw [pAt_some hy]
    cases l[j]? <;> rfl) (vs_len hv)
theorem higher_tks {l : List Ts} {k : Nat} {y : Ts} (hv : Vs l) (hy : l[k]? = some y) : tksAt l (higherF l (k : Int)) = l.filter (fun x => decide (x.p < y.p)) :=
  tksAt_eq _ (fun j => by
    unfold higherF
    rw [pAt_some hy]
    cases l[j]? <;> rfl) (vs_len hv)
def bF (b : Int) (x : Ts) : Int := max b (x.q - 1)
theorem lower_fold (p : Int) (l : List Ts) : (l.filter (fun x => decide (p < x.p))).foldl bF 0 = blkU p l := by
  rw [List.foldl_filter]
  unfold blkU
  congr 1
  funext b x
  unfold blkUF bF
  by_cases h : p < x.p
  · rw [if_pos (by simpa using h), if_pos h]
  · rw [if_neg (by simpa using h), if_neg h]
def P1 (B0 : Nat) (T0 : TypeId) (k : Nat) (T : TypeId) : Prop := k ≠ B0 ∨ T ≠ T0
theorem p1_set {B0 : Nat} {T0 : TypeId} {V : World} {v : Value} (h : Boxed V B0 T0 v) (u : Value) : KeepG (P1 B0 T0) V (V.setCell ⟨B0, 0, none⟩ u) :=
  KeepG.setCell u fun cs T fr hc => by
    have : V.heap[B0]? = some (.cells #[v] T0 (0, 0)) := h
    rw [this] at hc
    simp only [Option.some.injEq, Obj.cells.injEq] at hc
    rintro (h | h)
    · exact h rfl
    · exact h hc.2.1.symm
theorem p1_at {B0 bl : Nat} {T0 : TypeId} {A : Option Addr} (h1 : T0 ≠ 104) (h2 : T0 ≠ 130) (hbl : bl ≠ B0) (ht : 0 ≠ B0) (hr : ∀ b o, A = some ⟨b, o, none⟩ → b ≠ B0) : AtP (P1 B0 T0) A bl :=
  ⟨fun _ => .inr (Ne.symm h1), fun _ => .inr (Ne.symm h2), fun _ => .inl hbl, fun _ => .inl ht, fun b o e _ => .inl (hr b o e)⟩
theorem at_made {A : Option Addr} {cap : Nat} {l : List Ts} {f : Nat → Bool} {w : World} (hR : Row w A cap l) (hT : Tab w) (hin : ∀ k, f k = true → k < l.length) :
    ∃ W, (w.alloc (.cells #[.slice A l.length cap] 25)).alloc (.cells (cellsL f).toArray 104) = W ∧ AtS W A cap l f (w.heap.size + 1) w.heap.size ∧ Below w.heap.size w W ∧ W.heap.size = w.heap.size + 2 := by
  have hb : Below w.heap.size w ((w.alloc (.cells #[.slice A l.length cap] 25)).alloc (.cells (cellsL f).toArray 104)) := ((Below.refl _ _).alloc (Nat.le_refl _) _).alloc (by simp) _
  refine ⟨_, rfl, ⟨?_, Boxed.alloc (Boxed.new _ _ _) _, hR.later hb, hT.below hb, hin⟩, hb, by simp⟩
  have := Box.new (w.alloc (.cells #[.slice A l.length cap] 25)) f
  rwa [World.size_alloc] at this
/-- A sum in its box. -/
theorem boxed_later2 {W W' : World} {b : Nat} {t : TypeId} {v : Value} (h : Boxed W b t v) (hb : Below W.heap.size W W') : Boxed W' b t v := (hb.block b h.lt).trans h
theorem TAt.keepG {W W' : World} {b o : Nat} {x : Ts} (h : TAt W b o x) (hk : KeepG (fun _ _ => True) W W') : TAt W' b o x := ⟨fun j v hv => hk.cell (h.r j v hv) (fun _ => trivial)⟩
def FoB (w : World) (B0 : Nat) (T0 : TypeId) (v : Value) (V : World) : Prop := Boxed V B0 T0 v ∧ Below w.heap.size w V
theorem FoB.own {w V V' : World} {B0 : Nat} {T0 : TypeId} {v : Value} {row : Option Nat} {D : Nat} (h : FoB w B0 T0 v V) (hg : V.grownBy V' row) (hr : ∀ r, row = some r → D ≤ r ∧ ∃ o : Obj, V.heap[r]? = some o ∧ o.isCells = false) (hB : w.heap.size ≤ D) : FoB w B0 T0 v V' :=
  ⟨boxed_kept h.1 hg (fun r e => (hr r e).2), h.2.grown hg h.2.size (fun k e => by have := (hr k e).1; omega)⟩
set_option maxRecDepth 100000 in
set_option maxHeartbeats 4000000 in
theorem block_in (b o cap : Nat) (l : List Ts) (k : Nat) (y : Ts) (w : World) (hR : Row w (some ⟨b, o, none⟩) cap l) (hv : Vs l) (hy : l[k]? = some y) (hT : Tab w) :
    Calls Tryz.prog 75 #[.slice (some ⟨b, o, none⟩) l.length cap, .int .i64 (k : Int)] w fun e w' => e = .returned (.int .i64 (blkU y.p l)) ∧ Below w.heap.size w w' := by
  have hk : k < l.length := (List.getElem?_eq_some_iff.1 hy).1
  have hvl := hv.n1
  have hbl : b < w.heap.size := by
    obtain ⟨b', o', x, e, _, _, h, _⟩ := hR.get hk
    cases e; exact h
  have htab := hT.pos
  have hb1 : Below w.heap.size w (w.alloc (.cells #[.int .i64 0] 2)) := (Below.refl _ _).alloc (Nat.le_refl _) _
  obtain ⟨W1, hW1, X1, R1, T1, B1, s1⟩ : ∃ W1, w.alloc (.cells #[.int .i64 0] 2) = W1 ∧ Boxed W1 w.heap.size 2 (.int .i64 0) ∧ Row W1 (some ⟨b, o, none⟩) cap l ∧ Tab W1 ∧ Below w.heap.size w W1 ∧ W1.heap.size = w.heap.size + 1 :=
    ⟨_, rfl, Boxed.new _ _ _, hR.later hb1, hT.below hb1, hb1, by simp⟩
  have KL := Lib.hid (tlower_any (some ⟨b, o, none⟩) cap l (k : Int) W1 R1 ⟨by omega, by omega⟩)
  have KA := Lib.hid (fun W => at_any (some ⟨b, o, none⟩) l.length cap (lowerF l (k : Int)) W)
  have HIN : Hid (∀ j, lowerF l (k : Int) j = true → j < l.length) := Lib.hid (fun j hj => by
    rcases Nat.lt_or_ge j l.length with h | h
    · exact h
    · rw [lowerF_far h] at hj; cases hj)
  have HLT := Lib.hid (lower_tks hv hy)
  have HF := Lib.hid (lower_fold y.p l)
  have HOK : Hid (∀ x ∈ l.filter (fun x => decide (y.p < x.p)), 1 ≤ x.q ∧ x.q ≤ 2147483647) := Lib.hid (fun x hx => ⟨(hv.all x (List.mem_filter.1 hx).1).q0, (hv.all x (List.mem_filter.1 hx).1).q1⟩)
  generalize l.filter (fun x => decide (y.p < x.p)) = L at *
  have HW1 := Lib.hid hW1
  rw [← HF.out]
  clear hR hT hb1 hv hy hvl HF hW1
  generalize lowerF l (k : Int) = f at *
  refine (callsIn_wide (n := 5)).1 ?_
  refine callsIn_of_wp_marks Tryz.func75 rfl trivial ?_ rfl
  simp only [Tryz.ntmps75, List.size_toArray, List.length_cons, List.length_nil, Nat.reduceAdd, Nat.reduceSub, Array.replicate_succ, Array.replicate_zero, List.push_toArray, List.append_toArray, List.nil_append, List.cons_append]
  refine wpIn_wide.2 ?_
  go_upto_region 2 with (fail)
  rw [HW1.out]
  clear HW1
  go_upto_region 3 with (first
    | (go_at_call 99; (with_reducible refine KL.out.mono ?_); rintro e w2 ⟨rfl, h2⟩)
    | (go_at_call 98; (with_reducible refine (KA.out _).mono ?_); rintro e w3 ⟨rfl, rfl⟩)
    | fail)
  have X2 := boxed_later2 X1 h2
  have B2 := B1.trans (h2.mono B1.size)
  have R2 := R1.later h2
  have T2 := T1.below h2
  have s2 := h2.size
  obtain ⟨W3, hW3, S3, B3, s3⟩ := at_made R2 T2 HIN.out
  rw [hW3]
  have X3 := boxed_later2 X2 B3
  have B4 := B2.trans (B3.mono B2.size)
  clear hW3 X1 X2 R1 R2 T1 T2 B1 B2 h2 KL KA HIN
  have hws := B4.size
  have HP : Hid (AtP (P1 w.heap.size 2) (some ⟨b, o, none⟩) w2.heap.size) := Lib.hid (p1_at (by decide) (by decide) (by omega) (by omega) (by rintro b' o' e; cases e; omega))
  have SQ := at1_seq (5 - 1) (by omega) (some ⟨b, o, none⟩) cap l f (w2.heap.size + 1) w2.heap.size (P1 w.heap.size 2) W3 S3 HP.out
  rw [HLT.out] at SQ
  have SQ := Lib.hid SQ
  clear S3 HP HLT
  refine (wpIn_wide (n := 5)).1 ?_
  refine wpIn_named fun fr hfr => ?_
  refine rangeG (vals := tskV) (gf := 120) (lb := #[.pointer (some ⟨w2.heap.size + 1, 0, none⟩), .pointer (some ⟨w2.heap.size, 0, none⟩)]) (by rw [hfr]; rfl) (enters_of Tryz.func120 (by kernel_rfl) rfl)
    SQ.out (Below.refl _ _) (fun x => rfl)
    (fun pre V => FoB w w.heap.size 2 (.int .i64 (pre.foldl bF 0)) V) (fun _ _ _ => False)
    (fun pre X Y row h hg hr => h.own hg hr hws) (fun c s X Y row h _ _ => h) ⟨X3, B4⟩
    (fun x a' V => ∃ Bt, TAt V Bt 0 x ∧ Bt ≠ w.heap.size ∧ a' = { tmps := (fr.tmps.setIfInBounds 12 (tsV x)).setIfInBounds 6 (.pointer (some ⟨Bt, 0, none⟩)), defers := [] })
    (fun x a' _ X Y row hs hg hr => hs.imp fun Bt h => ⟨h.1.keepG (keepG_grown hg (fun r e => (hr r e).2)), h.2⟩)
    ?assign ?body ?done ?stop
  case assign =>
    intro l2 pre x V K hi hK
    have hVs := hi.2.size
    have hlt := hi.1.lt
    have hTn := TAt.new V x
    have hIn : FoB w w.heap.size 2 (.int .i64 (pre.foldl bF 0)) (V.alloc (.cells #[.string x.n, .int .i64 x.c, .int .i64 x.t, .int .i64 x.d, .int .i64 x.j, .int .i64 x.q, .int .i64 x.p] 40)) := ⟨Boxed.alloc hi.1 _, hi.2.alloc hi.2.size _⟩
    subst hfr
    clear SQ
    gi_wp2
    exact hK _ _ ((KeepsOthers.alloc _ _).from _) (KeepG.below ((Below.refl _ _).alloc (Nat.le_refl _) _)) hIn ⟨V.heap.size, hTn, by omega, rfl⟩
  case body =>
    rintro l2 pre x a' V hi ⟨Bt, hT, hne, rfl⟩ ⟨r, hr⟩
    obtain ⟨q0, q1⟩ := HOK.out x (by rw [hr]; simp)
    have e1 : IntKind.i64.wrap (x.q - 1) = x.q - 1 := by rw [IntKind.wrap_i64]; omega
    have e2 : wrap64 (x.q - 1) = x.q - 1 := IntWalk.wrap64_in _ (by omega)
    have cb := hi.1.cell
    have fb := hi.1.frozen
    have c5 := hT.c5
    have HX := Lib.hid (fun u => p1_set hi.1 u)
    have HI := Lib.hid (fun u => (⟨Boxed.set u hi.1, hi.2.setCell (p := ⟨w.heap.size, 0, none⟩) (Nat.le_refl _) u⟩ : FoB w w.heap.size 2 u (V.setCell ⟨w.heap.size, 0, none⟩ u)))
    have HFO : Hid ((pre ++ [x]).foldl bF 0 = max (pre.foldl bF 0) (x.q - 1)) := Lib.hid (by rw [List.foldl_append]; rfl)
    generalize pre.foldl bF 0 = m at *
    subst hfr
    clear SQ HOK hT hi hr
    dsimp only [List.setIfInBounds_toArray, List.set_cons_succ, List.set_cons_zero]
    gi_wp2
    refine ⟨(KeepsOthers.setCell _ _ _).from _, HX.out _, ?_⟩
    show FoB w _ _ (.int .i64 ((pre ++ [x]).foldl bF 0)) _
    rw [HFO.out]
    exact HI.out _
  case done =>
    rintro D V hD hi hK
    have cb := hi.1.cell
    have HB := Lib.hid hi.2
    subst hfr
    clear SQ HOK hi
    go_wp2
    refine ⟨by simp, .inl ⟨_, _, rfl, run_takeDeferred hK, ?_⟩⟩
    exact ⟨.int .i64 (L.foldl bF 0), by simp [results, Tryz.f75, go_sem], rfl, HB.out.trans (belowK_b (w := w) (Nat.le_refl _) V D _ _ (by omega) hK rfl rfl)⟩
  case stop =>
    rintro D c pre x V hD hr h hK
    exact h.elim
end Go.Proofs.YtnhddnldebdmbaaGreatDoor
/- A region that draws its order, in a round: as everywhere. -/
namespace Go.Proofs.YtnhddnldebdmbaaGreatDoor
open Go.RowKit Go.Shelf
set_option linter.unusedVariables false

/-- An operation that is no defer statement goes in a round as everywhere. -/
theorem op_round {P : Program} {o : Oper} {a : Act} {w : World} {K : Act → World → Prop} {Q : Exit → Act → World → Prop} (l n : Nat) (hd : ∀ c, o.op ≠ .defer c) (h : o.wp P a w K Q) : o.wpIn (Fence.wide.inRound l) n P a w K Q := by
  refine ⟨fun _ _ => trivial, ?_⟩
  rw [Oper.semAt_plain _ _ _ hd]
  unfold Oper.wp at h
  generalize (execOp a.eval o).run P w = r at *
  cases r with
  | ok x w' =>
    cases x with
    | value v => exact h
    | skip => exact h
    | defer d => exact h
    | enter f args => exact ⟨fun h => by simp [Fence.inRound, Fence.wide] at h, CallsIn.inRound l ((callsIn_wide.2 h).mono fun e w'' he => by cases e <;> exact he)⟩
    | row row args => exact ⟨fun h => by simp [Fence.inRound, Fence.wide] at h, fun c cs _ => let ⟨v, w', r, s⟩ := h c cs; ⟨v, w', r, stepsIn_wide.2 s⟩⟩
    | _ => exact h.elim
  | halt x w' => cases x <;> exact h
theorem any_round {P : Program} {md : Region.Mode} {ops : Array Oper} {Q : Exit → Act → World → Prop} (l n : Nat) (hlo : ¬ LetsOut Q) (hd : ∀ (i : Nat) (o : Oper), ops[i]? = some o → ∀ c, o.op ≠ .defer c) :
    ∀ (fuel : Nat) (listed : Array Bool) (a : Act) (w : World), wpAny P md ops Q fuel listed a w → wpAnyIn (Fence.wide.inRound l) n P md ops Q fuel listed a w := by
  intro fuel
  induction fuel with
  | zero => intro listed a w h; exact h
  | succ fuel ih =>
    intro listed a w h
    refine ⟨h.1, fun i hi => ?_⟩
    have h2 := h.2 i hi
    unfold wpOp at h2
    unfold wpOpIn
    cases ho : ops[i]? with
    | none => rw [ho] at h2; exact ih _ _ _ h2
    | some o =>
      rw [ho] at h2
      simp only at h2 ⊢
      split
      · rename_i hw
        rw [if_pos hw] at h2
        exact Oper.wpIn_mono (fun a w h => ih _ a w h) (op_round l n (hd i o ho) (h2.resolve_right fun h => hlo h.2))
      · rename_i hw
        rw [if_neg hw] at h2
        exact ⟨fun _ _ => trivial, ih _ _ _ h2⟩
theorem region_round {P : Program} {id : Nat} {Q : Exit → Act → World → Prop} {a : Act} {w : World} {ops : List Oper} {l n : Nat} (hlo : ¬ LetsOut Q) (hd : ops.all (fun o => match o.op with | .defer _ => false | _ => true) = true) (hm : P.follows .mixedOrders = true) (hB : Region.lexB .any ops.toArray = true)
    (h : wpQuiet P ops.toArray (fun w' => ∃ n, w' = w.drewN n) (fun a' => ∀ w', (∃ n, w' = w.drewN n) → Q .normal a' w') ops a) : (Code.region id ops.toArray true).wpIn (Fence.wide.inRound l) n P Q a w := by
  simp only [Region.lexB, Bool.and_eq_true] at hB
  refine wpIn_region_any hm (any_round l n hlo (fun i o ho c e => ?_) _ _ _ _ ?_)
  · have := List.all_eq_true.1 hd o (List.mem_of_getElem? (by simpa using ho))
    rw [e] at this
    cases this
  · refine wpAny_of_quiet (C := fun w' => ∃ n, w' = w.drewN n) (Q := fun a' => ∀ w', (∃ n, w' = w.drewN n) → Q .normal a' w') (fun _ w' hw' h => h w' hw') _ _ _ _ ⟨1, rfl⟩ ?_
    have := wpAnyQ_lex (C := fun w' => ∃ n, w' = w.drewN n) (md := .any) hB.1 ops 0 (Array.replicate ops.toArray.size false) a (by simp) (by simpa using hB.2) h
    simpa using this

theorem region_round_any {P : Program} {id : Nat} {Q : Exit → Act → World → Prop} {a : Act} {w : World} {ops : List Oper} {l n : Nat} (hlo : ¬ LetsOut Q) (hd : ops.all (fun o => match o.op with | .defer _ => false | _ => true) = true) (hm : P.follows .mixedOrders = true)
    (h : wpAny P .any ops.toArray Q ops.toArray.size (Array.replicate ops.toArray.size false) a w.drew) : (Code.region id ops.toArray true).wpIn (Fence.wide.inRound l) n P Q a w := by
  refine wpIn_region_any hm (any_round l n hlo (fun i o ho c e => ?_) _ _ _ _ h)
  have := List.all_eq_true.1 hd o (List.mem_of_getElem? (by simpa using ho))
  rw [e] at this
  cases this
theorem region_round_held {S : World → Prop} {P : Program} {id : Nat} {Q : Exit → Act → World → Prop} {a : Act} {w : World} {ops : List Oper} {l n : Nat} (hlo : ¬ LetsOut Q) (hd : ops.all (fun o => match o.op with | .defer _ => false | _ => true) = true) (hm : P.follows .mixedOrders = true)
    (hS : S w.drew) (h : S w.drew → wpAnyH P .any ops.toArray Q S ops.toArray.size (Array.replicate ops.toArray.size false) a w.drew) : (Code.region id ops.toArray true).wpIn (Fence.wide.inRound l) n P Q a w :=
  region_round_any hlo hd hm (wpAny_of_held _ _ _ _ (h hS))
end Go.Proofs.YtnhddnldebdmbaaGreatDoor
