/- The law's own below: true at any two numbers. -/
import Derived.Test.YthmngibmpkgjkaaDoorAwake
import Derived.Deep.CutBlock
namespace Go.Proofs.YthmngibmpkgjkaaDoor
open Go.RowKit
set_option linter.unusedVariables false

/-- A set out of its block, by an operation that a guard lets by. -/
theorem wpList_load_g {ops : Array Oper} {rest : List Oper} {o : Oper} {a : Act} {w : World} {Q : Exit → Act → World → Prop} (hw : Region.wanted o (yielded ops a.tmps) = true) (x : Operand) (ho : o.op = .load 26 x)
    (b : Nat) (f : Nat → Bool) (hx : a.eval x = .pointer (some ⟨b, 0, none⟩)) (hb : Box w b f)
    (h : wpList Tryd.prog ops Q rest (a.put o.dst (setV f)) w) : wpList Tryd.prog ops Q (o :: rest) a w :=
  wpList_step fun K hK => by
    rw [if_pos hw]
    exact wp_load_mid 26 x ho b 0 hx (cellsL f) _ hb.range Tryd.underlying26 rfl (info26 f) (hK _ _ h)

/-! ### Plain facts -/
theorem nums_first (f : Nat → Bool) (a : Nat) (ha : a < 1024) (h1 : f a = true) (h0 : ∀ j, j < a → f j = false) : ∃ l, nums f = a :: l := by
  refine ⟨numsIn f (a + 1) (1023 - a), ?_⟩
  have e : 1024 = a + (1 + (1023 - a)) := by omega
  have hs : nums f = numsIn f 0 a ++ (numsIn f (0 + a) 1 ++ numsIn f (0 + a + 1) (1023 - a)) := by
    rw [← numsIn_append, ← numsIn_append, ← e]; rfl
  rw [hs, numsIn_none (fun j _ hj => h0 j (by omega)), Nat.zero_add]
  have b1 : numsIn f a 1 = [a] := by simp [numsIn, List.range', h1]
  rw [b1]; rfl
theorem nums_nil (f : Nat → Bool) (h0 : ∀ j, j < 1024 → f j = false) : nums f = [] := numsIn_none fun j _ hj => h0 j (by omega)
theorem pc_nums (f : Nat → Bool) (i : Nat) : ∀ k, k ≤ 64 → pc (word f i) k = (numsIn f (64 * i) k).length := by
  intro k
  induction k with
  | zero => intro _; rfl
  | succ k ih =>
    intro hk
    rw [numsIn_append, List.length_append, ← ih (by omega)]
    simp only [pc, testBit_word]
    have h : k < 64 := by omega
    have b : (numsIn f (64 * i + k) 1).length = (f (64 * i + k)).toNat := by
      cases hf : f (64 * i + k) <;> simp [numsIn, List.range', hf]
    rw [b]; simp [h]
theorem cnt_nums (f : Nat → Bool) : ∀ i, cnt f i = (numsIn f 0 (64 * i)).length := by
  intro i
  induction i with
  | zero => rfl
  | succ i ih =>
    rw [cnt, ih, pc_nums f i 64 (by omega), Nat.mul_add, numsIn_append, List.length_append, Nat.zero_add]
theorem cnt_all (f : Nat → Bool) : cnt f 16 = (nums f).length := cnt_nums f 16
theorem numsIn_full {f : Nat → Bool} {a n : Nat} (h : ∀ j, a ≤ j → j < a + n → f j = true) : (numsIn f a n).length = n := by
  have : numsIn f a n = List.range' a n := List.filter_eq_self.2 fun j hj => by
    rw [List.mem_range'_1] at hj; exact h j hj.1 hj.2
  rw [this, List.length_range']
theorem cnt_below (n : Int) (c : Nat) (hc : c ≤ 1024) (h : ∀ j : Nat, j < 1024 → ((j : Int) < n ↔ j < c)) : cnt (belowF n) 16 = c := by
  have e : 1024 = c + (1024 - c) := by omega
  have hs : nums (belowF n) = numsIn (belowF n) 0 c ++ numsIn (belowF n) (0 + c) (1024 - c) := by
    rw [← numsIn_append, ← e]; rfl
  rw [cnt_all, hs, List.length_append, numsIn_full, numsIn_none]
  · rfl
  · intro j h1 h2
    have := h j (by omega)
    simp only [belowF, decide_eq_false_iff_not, this]; omega
  · intro j h1 h2
    have := h j (by omega)
    simp only [belowF, decide_eq_true_eq, this]; omega

/-- What Next answers of all below n, c of them, at k. -/
theorem next_yes (n k : Int) (c a : Nat) (hc : c ≤ 1024) (h : ∀ j : Nat, j < 1024 → ((j : Int) < n ↔ j < c)) (ha : (a : Int) = max (k + 1) 0) (hac : a < c) :
    hdN (nums (aboveF (belowF n) k)) = (a : Int) ∧ hdB (nums (aboveF (belowF n) k)) = true := by
  obtain ⟨l, hl⟩ := nums_first (aboveF (belowF n) k) a (by omega) (by
    have := h a (by omega)
    simp only [aboveF, belowF, Bool.and_eq_true, decide_eq_true_eq, this]; omega) (fun j hj => by
    simp only [aboveF, Bool.and_eq_false_iff, decide_eq_false_iff_not]; omega)
  rw [hl]; exact ⟨rfl, rfl⟩
theorem next_no (n k : Int) (c : Nat) (h : ∀ j : Nat, j < 1024 → ((j : Int) < n ↔ j < c)) (hac : (c : Int) ≤ max (k + 1) 0) :
    hdN (nums (aboveF (belowF n) k)) = 0 ∧ hdB (nums (aboveF (belowF n) k)) = false := by
  rw [nums_nil (aboveF (belowF n) k) (fun j hj => by
    have := h j hj
    simp only [aboveF, belowF, Bool.and_eq_false_iff, decide_eq_false_iff_not, this]; omega)]
  exact ⟨rfl, rfl⟩
theorem has_below (n k : Int) (c : Nat) (h : ∀ j : Nat, j < 1024 → ((j : Int) < n ↔ j < c)) (hc : c ≤ 1024) : hasB (belowF n) k = decide (0 ≤ k ∧ k < c) := by
  by_cases h0 : 0 ≤ k
  · obtain ⟨j, rfl⟩ := Int.eq_ofNat_of_zero_le h0
    by_cases hj : j < 1024
    · rw [hasB_nat _ _ hj]
      have := h j hj
      simp only [belowF, this, decide_eq_decide]; omega
    · have e : mayB (j : Int) = false := by simp [mayB]; omega
      rw [hasB, e, Bool.false_and]
      symm
      simp; omega
  · have e : mayB k = false := by simp [mayB, h0]
    rw [hasB, e, Bool.false_and]
    simp [h0]
theorem tmod_bd (o : Int) : -1034 < o.tmod 1034 ∧ o.tmod 1034 < 1034 := by
  rcases Int.le_total 0 o with h | h
  · rw [Int.tmod_eq_emod_of_nonneg h]; omega
  · obtain ⟨m, rfl⟩ : ∃ m, o = -m := ⟨-o, by omega⟩
    rw [Int.neg_tmod, Int.tmod_eq_emod_of_nonneg (by omega)]; omega
theorem k_bd (o : Int) : -3 ≤ wrap64 ((wrap64 (o.tmod 1034 + 1034)).tmod 1034 - 3) ∧ wrap64 ((wrap64 (o.tmod 1034 + 1034)).tmod 1034 - 3) ≤ 1030 := by
  have ha := tmod_bd o
  generalize o.tmod 1034 = a at *
  have e1 : wrap64 (a + 1034) = a + 1034 := IntWalk.wrap64_in _ (by omega)
  rw [e1, Int.tmod_eq_emod_of_nonneg (by omega)]
  have e2 : wrap64 ((a + 1034) % 1034 - 3) = (a + 1034) % 1034 - 3 := IntWalk.wrap64_in _ (by omega)
  rw [e2]; omega

set_option maxRecDepth 100000 in
set_option maxHeartbeats 2000000 in
theorem lb_lo_a (n o k : Int) (c : Nat) (w : World) (hT : Tab w) (hn : -9223372036854775808 ≤ n ∧ n < 0) (hk : 0 ≤ (1 : Int) ∧ 0 ≤ (1 : Int)) (hkd : wrap64 ((wrap64 (o.tmod 1034 + 1034)).tmod 1034 - 3) = (-1)) (hkb : -3 ≤ k ∧ k ≤ 1030)
    (L : Hid (∀ w, Calls Tryd.prog 21 #[setV (belowF n)] w fun e w' => e = .returned (.int .i64 0) ∧ Below w.heap.size w w'))
    (H : Hid (∀ w, Calls Tryd.prog 29 #[setV (belowF n), .int .i64 (-1)] w fun e w' => e = .returned (.bool false) ∧ Below w.heap.size w w'))
    (N : Hid (∀ w, Tab w → Calls Tryd.prog 25 #[setV (belowF n), .int .i64 (-1)] w fun e w' => e = .returned (.tuple #[.int .i64 0, .bool false]) ∧ Below w.heap.size w w')) :
    Calls Tryd.prog 22 #[.int .i64 n, .int .i64 o] w fun e w' => e = .returned (.bool true) ∧ Below w.heap.size w w' := by
  have B := Lib.hid (fun w => below_any n w (by omega) (by omega))
  have HK := Lib.hid hkd
  go_split_ands
  clear hkd
  go_enter Tryd.func22, Tryd.ntmps22
  go_upto_region 4 with (first
    | (go_at_call 9; refine (awake_any _ hT).mono ?_; rintro e w1 ⟨rfl, h1⟩; have K1 : KeptT w w1 := (KeptT.refl hT).step h1; clear h1)
    | (go_at_call 20; refine (B.out _).mono ?_; rintro e w2 ⟨rfl, h2⟩; have K2 : KeptT w w2 := K1.step h2; clear h2)
    | ((with_reducible show wpList _ _ _ (⟨none, Op.store 26 _ _, _, _, _, _⟩ :: _) _ _); refine wpList_store_mid rfl 26 _ _ rfl _ _ (cellsL (belowF n)).toArray rfl rfl ((zero_box _).there _) (info26' _) (cellsL_all _) ?_; rw [alloc_stored]; obtain ⟨W2, hW2, B2, K3⟩ := held_new K2 (belowF n); rw [hW2]; clear hW2))
  rw [HK.out]
  clear K1 K2 HK B
  go_wp2_with (first
    | ((with_reducible show wpList _ _ _ (⟨some 23, _, _, _, _, _⟩ :: _) _ _); refine wpList_load_mid rfl 26 _ rfl _ _ rfl _ _ B2.range Tryd.underlying26 rfl (info26 _) ?_)
    | (go_at_call 25; refine (N.out _ K3.2).mono ?_; rintro e w4 ⟨rfl, h4⟩; have B4 := B2.later h4; have K4 := K3.step h4; clear h4)
    | ((with_reducible show wpList _ _ _ (⟨some 30, _, _, _, _, _⟩ :: _) _ _); refine wpList_load_g rfl _ rfl _ _ rfl B4 ?_)
    | (go_at_call 21; refine (L.out _).mono ?_; rintro e w5 ⟨rfl, h5⟩; have B5 := B4.later h5; have K5 := K4.step h5; clear h5)
    | ((with_reducible show wpList _ _ _ (⟨some 36, _, _, _, _, _⟩ :: _) _ _); refine wpList_load_g rfl _ rfl _ _ rfl B5 ?_)
    | (go_at_call 29; refine (H.out _).mono ?_; rintro e w6 ⟨rfl, h6⟩; have K6 := K5.step h6; clear h6))
  all_goals (go_ret; exact ⟨rfl, K6.1⟩)
set_option maxRecDepth 100000 in
set_option maxHeartbeats 2000000 in
theorem lb_lo_b (n o k : Int) (c : Nat) (w : World) (hT : Tab w) (hn : -9223372036854775808 ≤ n ∧ n < 0) (hk : k < -1 ∧ k + 1 < 0) (hkd : wrap64 ((wrap64 (o.tmod 1034 + 1034)).tmod 1034 - 3) = k) (hkb : -3 ≤ k ∧ k ≤ 1030)
    (L : Hid (∀ w, Calls Tryd.prog 21 #[setV (belowF n)] w fun e w' => e = .returned (.int .i64 0) ∧ Below w.heap.size w w'))
    (H : Hid (∀ w, Calls Tryd.prog 29 #[setV (belowF n), .int .i64 k] w fun e w' => e = .returned (.bool false) ∧ Below w.heap.size w w'))
    (N : Hid (∀ w, Tab w → Calls Tryd.prog 25 #[setV (belowF n), .int .i64 k] w fun e w' => e = .returned (.tuple #[.int .i64 0, .bool false]) ∧ Below w.heap.size w w')) :
    Calls Tryd.prog 22 #[.int .i64 n, .int .i64 o] w fun e w' => e = .returned (.bool true) ∧ Below w.heap.size w w' := by
  have B := Lib.hid (fun w => below_any n w (by omega) (by omega))
  have HK := Lib.hid hkd
  go_split_ands
  clear hkd
  go_enter Tryd.func22, Tryd.ntmps22
  go_upto_region 4 with (first
    | (go_at_call 9; refine (awake_any _ hT).mono ?_; rintro e w1 ⟨rfl, h1⟩; have K1 : KeptT w w1 := (KeptT.refl hT).step h1; clear h1)
    | (go_at_call 20; refine (B.out _).mono ?_; rintro e w2 ⟨rfl, h2⟩; have K2 : KeptT w w2 := K1.step h2; clear h2)
    | ((with_reducible show wpList _ _ _ (⟨none, Op.store 26 _ _, _, _, _, _⟩ :: _) _ _); refine wpList_store_mid rfl 26 _ _ rfl _ _ (cellsL (belowF n)).toArray rfl rfl ((zero_box _).there _) (info26' _) (cellsL_all _) ?_; rw [alloc_stored]; obtain ⟨W2, hW2, B2, K3⟩ := held_new K2 (belowF n); rw [hW2]; clear hW2))
  rw [HK.out]
  clear K1 K2 HK B
  go_wp2_with (first
    | ((with_reducible show wpList _ _ _ (⟨some 23, _, _, _, _, _⟩ :: _) _ _); refine wpList_load_mid rfl 26 _ rfl _ _ rfl _ _ B2.range Tryd.underlying26 rfl (info26 _) ?_)
    | (go_at_call 25; refine (N.out _ K3.2).mono ?_; rintro e w4 ⟨rfl, h4⟩; have B4 := B2.later h4; have K4 := K3.step h4; clear h4)
    | ((with_reducible show wpList _ _ _ (⟨some 30, _, _, _, _, _⟩ :: _) _ _); refine wpList_load_g rfl _ rfl _ _ rfl B4 ?_)
    | (go_at_call 21; refine (L.out _).mono ?_; rintro e w5 ⟨rfl, h5⟩; have B5 := B4.later h5; have K5 := K4.step h5; clear h5)
    | ((with_reducible show wpList _ _ _ (⟨some 36, _, _, _, _, _⟩ :: _) _ _); refine wpList_load_g rfl _ rfl _ _ rfl B5 ?_)
    | (go_at_call 29; refine (H.out _).mono ?_; rintro e w6 ⟨rfl, h6⟩; have K6 := K5.step h6; clear h6))
  all_goals (go_ret; exact ⟨rfl, K6.1⟩)
set_option maxRecDepth 100000 in
set_option maxHeartbeats 2000000 in
theorem lb_lo_c (n o k : Int) (c : Nat) (w : World) (hT : Tab w) (hn : -9223372036854775808 ≤ n ∧ n < 0) (hk : 0 ≤ k ∧ 0 < k + 1 ∧ decide (k < 0) = false) (hkd : wrap64 ((wrap64 (o.tmod 1034 + 1034)).tmod 1034 - 3) = k) (hkb : -3 ≤ k ∧ k ≤ 1030)
    (L : Hid (∀ w, Calls Tryd.prog 21 #[setV (belowF n)] w fun e w' => e = .returned (.int .i64 0) ∧ Below w.heap.size w w'))
    (H : Hid (∀ w, Calls Tryd.prog 29 #[setV (belowF n), .int .i64 k] w fun e w' => e = .returned (.bool false) ∧ Below w.heap.size w w'))
    (N : Hid (∀ w, Tab w → Calls Tryd.prog 25 #[setV (belowF n), .int .i64 k] w fun e w' => e = .returned (.tuple #[.int .i64 0, .bool false]) ∧ Below w.heap.size w w')) :
    Calls Tryd.prog 22 #[.int .i64 n, .int .i64 o] w fun e w' => e = .returned (.bool true) ∧ Below w.heap.size w w' := by
  have B := Lib.hid (fun w => below_any n w (by omega) (by omega))
  have HK := Lib.hid hkd
  go_split_ands
  clear hkd
  go_enter Tryd.func22, Tryd.ntmps22
  go_upto_region 4 with (first
    | (go_at_call 9; refine (awake_any _ hT).mono ?_; rintro e w1 ⟨rfl, h1⟩; have K1 : KeptT w w1 := (KeptT.refl hT).step h1; clear h1)
    | (go_at_call 20; refine (B.out _).mono ?_; rintro e w2 ⟨rfl, h2⟩; have K2 : KeptT w w2 := K1.step h2; clear h2)
    | ((with_reducible show wpList _ _ _ (⟨none, Op.store 26 _ _, _, _, _, _⟩ :: _) _ _); refine wpList_store_mid rfl 26 _ _ rfl _ _ (cellsL (belowF n)).toArray rfl rfl ((zero_box _).there _) (info26' _) (cellsL_all _) ?_; rw [alloc_stored]; obtain ⟨W2, hW2, B2, K3⟩ := held_new K2 (belowF n); rw [hW2]; clear hW2))
  rw [HK.out]
  clear K1 K2 HK B
  go_wp2_with (first
    | ((with_reducible show wpList _ _ _ (⟨some 23, _, _, _, _, _⟩ :: _) _ _); refine wpList_load_mid rfl 26 _ rfl _ _ rfl _ _ B2.range Tryd.underlying26 rfl (info26 _) ?_)
    | (go_at_call 25; refine (N.out _ K3.2).mono ?_; rintro e w4 ⟨rfl, h4⟩; have B4 := B2.later h4; have K4 := K3.step h4; clear h4)
    | ((with_reducible show wpList _ _ _ (⟨some 30, _, _, _, _, _⟩ :: _) _ _); refine wpList_load_g rfl _ rfl _ _ rfl B4 ?_)
    | (go_at_call 21; refine (L.out _).mono ?_; rintro e w5 ⟨rfl, h5⟩; have B5 := B4.later h5; have K5 := K4.step h5; clear h5)
    | ((with_reducible show wpList _ _ _ (⟨some 36, _, _, _, _, _⟩ :: _) _ _); refine wpList_load_g rfl _ rfl _ _ rfl B5 ?_)
    | (go_at_call 29; refine (H.out _).mono ?_; rintro e w6 ⟨rfl, h6⟩; have K6 := K5.step h6; clear h6))
  all_goals (go_ret; exact ⟨rfl, K6.1⟩)
set_option maxRecDepth 100000 in
set_option maxHeartbeats 2000000 in
theorem lb_z_a (n o k : Int) (c : Nat) (w : World) (hT : Tab w) (hn : 0 ≤ (1 : Int) ∧ 0 ≤ (1 : Int)) (hk : 0 ≤ (1 : Int) ∧ 0 ≤ (1 : Int)) (hkd : wrap64 ((wrap64 (o.tmod 1034 + 1034)).tmod 1034 - 3) = (-1)) (hkb : -3 ≤ k ∧ k ≤ 1030)
    (L : Hid (∀ w, Calls Tryd.prog 21 #[setV (belowF 0)] w fun e w' => e = .returned (.int .i64 0) ∧ Below w.heap.size w w'))
    (H : Hid (∀ w, Calls Tryd.prog 29 #[setV (belowF 0), .int .i64 (-1)] w fun e w' => e = .returned (.bool false) ∧ Below w.heap.size w w'))
    (N : Hid (∀ w, Tab w → Calls Tryd.prog 25 #[setV (belowF 0), .int .i64 (-1)] w fun e w' => e = .returned (.tuple #[.int .i64 0, .bool false]) ∧ Below w.heap.size w w')) :
    Calls Tryd.prog 22 #[.int .i64 0, .int .i64 o] w fun e w' => e = .returned (.bool true) ∧ Below w.heap.size w w' := by
  have B := Lib.hid (fun w => below_any 0 w (by omega) (by omega))
  have HK := Lib.hid hkd
  go_split_ands
  clear hkd
  go_enter Tryd.func22, Tryd.ntmps22
  go_upto_region 4 with (first
    | (go_at_call 9; refine (awake_any _ hT).mono ?_; rintro e w1 ⟨rfl, h1⟩; have K1 : KeptT w w1 := (KeptT.refl hT).step h1; clear h1)
    | (go_at_call 20; refine (B.out _).mono ?_; rintro e w2 ⟨rfl, h2⟩; have K2 : KeptT w w2 := K1.step h2; clear h2)
    | ((with_reducible show wpList _ _ _ (⟨none, Op.store 26 _ _, _, _, _, _⟩ :: _) _ _); refine wpList_store_mid rfl 26 _ _ rfl _ _ (cellsL (belowF 0)).toArray rfl rfl ((zero_box _).there _) (info26' _) (cellsL_all _) ?_; rw [alloc_stored]; obtain ⟨W2, hW2, B2, K3⟩ := held_new K2 (belowF 0); rw [hW2]; clear hW2))
  rw [HK.out]
  clear K1 K2 HK B
  go_wp2_with (first
    | ((with_reducible show wpList _ _ _ (⟨some 23, _, _, _, _, _⟩ :: _) _ _); refine wpList_load_mid rfl 26 _ rfl _ _ rfl _ _ B2.range Tryd.underlying26 rfl (info26 _) ?_)
    | (go_at_call 25; refine (N.out _ K3.2).mono ?_; rintro e w4 ⟨rfl, h4⟩; have B4 := B2.later h4; have K4 := K3.step h4; clear h4)
    | ((with_reducible show wpList _ _ _ (⟨some 30, _, _, _, _, _⟩ :: _) _ _); refine wpList_load_g rfl _ rfl _ _ rfl B4 ?_)
    | (go_at_call 21; refine (L.out _).mono ?_; rintro e w5 ⟨rfl, h5⟩; have B5 := B4.later h5; have K5 := K4.step h5; clear h5)
    | ((with_reducible show wpList _ _ _ (⟨some 36, _, _, _, _, _⟩ :: _) _ _); refine wpList_load_g rfl _ rfl _ _ rfl B5 ?_)
    | (go_at_call 29; refine (H.out _).mono ?_; rintro e w6 ⟨rfl, h6⟩; have K6 := K5.step h6; clear h6))
  all_goals (go_ret; exact ⟨rfl, K6.1⟩)
set_option maxRecDepth 100000 in
set_option maxHeartbeats 2000000 in
theorem lb_z_b (n o k : Int) (c : Nat) (w : World) (hT : Tab w) (hn : 0 ≤ (1 : Int) ∧ 0 ≤ (1 : Int)) (hk : k < -1 ∧ k + 1 < 0) (hkd : wrap64 ((wrap64 (o.tmod 1034 + 1034)).tmod 1034 - 3) = k) (hkb : -3 ≤ k ∧ k ≤ 1030)
    (L : Hid (∀ w, Calls Tryd.prog 21 #[setV (belowF 0)] w fun e w' => e = .returned (.int .i64 0) ∧ Below w.heap.size w w'))
    (H : Hid (∀ w, Calls Tryd.prog 29 #[setV (belowF 0), .int .i64 k] w fun e w' => e = .returned (.bool false) ∧ Below w.heap.size w w'))
    (N : Hid (∀ w, Tab w → Calls Tryd.prog 25 #[setV (belowF 0), .int .i64 k] w fun e w' => e = .returned (.tuple #[.int .i64 0, .bool false]) ∧ Below w.heap.size w w')) :
    Calls Tryd.prog 22 #[.int .i64 0, .int .i64 o] w fun e w' => e = .returned (.bool true) ∧ Below w.heap.size w w' := by
  have B := Lib.hid (fun w => below_any 0 w (by omega) (by omega))
  have HK := Lib.hid hkd
  go_split_ands
  clear hkd
  go_enter Tryd.func22, Tryd.ntmps22
  go_upto_region 4 with (first
    | (go_at_call 9; refine (awake_any _ hT).mono ?_; rintro e w1 ⟨rfl, h1⟩; have K1 : KeptT w w1 := (KeptT.refl hT).step h1; clear h1)
    | (go_at_call 20; refine (B.out _).mono ?_; rintro e w2 ⟨rfl, h2⟩; have K2 : KeptT w w2 := K1.step h2; clear h2)
    | ((with_reducible show wpList _ _ _ (⟨none, Op.store 26 _ _, _, _, _, _⟩ :: _) _ _); refine wpList_store_mid rfl 26 _ _ rfl _ _ (cellsL (belowF 0)).toArray rfl rfl ((zero_box _).there _) (info26' _) (cellsL_all _) ?_; rw [alloc_stored]; obtain ⟨W2, hW2, B2, K3⟩ := held_new K2 (belowF 0); rw [hW2]; clear hW2))
  rw [HK.out]
  clear K1 K2 HK B
  go_wp2_with (first
    | ((with_reducible show wpList _ _ _ (⟨some 23, _, _, _, _, _⟩ :: _) _ _); refine wpList_load_mid rfl 26 _ rfl _ _ rfl _ _ B2.range Tryd.underlying26 rfl (info26 _) ?_)
    | (go_at_call 25; refine (N.out _ K3.2).mono ?_; rintro e w4 ⟨rfl, h4⟩; have B4 := B2.later h4; have K4 := K3.step h4; clear h4)
    | ((with_reducible show wpList _ _ _ (⟨some 30, _, _, _, _, _⟩ :: _) _ _); refine wpList_load_g rfl _ rfl _ _ rfl B4 ?_)
    | (go_at_call 21; refine (L.out _).mono ?_; rintro e w5 ⟨rfl, h5⟩; have B5 := B4.later h5; have K5 := K4.step h5; clear h5)
    | ((with_reducible show wpList _ _ _ (⟨some 36, _, _, _, _, _⟩ :: _) _ _); refine wpList_load_g rfl _ rfl _ _ rfl B5 ?_)
    | (go_at_call 29; refine (H.out _).mono ?_; rintro e w6 ⟨rfl, h6⟩; have K6 := K5.step h6; clear h6))
  all_goals (go_ret; exact ⟨rfl, K6.1⟩)
set_option maxRecDepth 100000 in
set_option maxHeartbeats 2000000 in
theorem lb_z_c (n o k : Int) (c : Nat) (w : World) (hT : Tab w) (hn : 0 ≤ (1 : Int) ∧ 0 ≤ (1 : Int)) (hk : 0 ≤ k ∧ 0 < k + 1 ∧ decide (k < 0) = false) (hkd : wrap64 ((wrap64 (o.tmod 1034 + 1034)).tmod 1034 - 3) = k) (hkb : -3 ≤ k ∧ k ≤ 1030)
    (L : Hid (∀ w, Calls Tryd.prog 21 #[setV (belowF 0)] w fun e w' => e = .returned (.int .i64 0) ∧ Below w.heap.size w w'))
    (H : Hid (∀ w, Calls Tryd.prog 29 #[setV (belowF 0), .int .i64 k] w fun e w' => e = .returned (.bool false) ∧ Below w.heap.size w w'))
    (N : Hid (∀ w, Tab w → Calls Tryd.prog 25 #[setV (belowF 0), .int .i64 k] w fun e w' => e = .returned (.tuple #[.int .i64 0, .bool false]) ∧ Below w.heap.size w w')) :
    Calls Tryd.prog 22 #[.int .i64 0, .int .i64 o] w fun e w' => e = .returned (.bool true) ∧ Below w.heap.size w w' := by
  have B := Lib.hid (fun w => below_any 0 w (by omega) (by omega))
  have HK := Lib.hid hkd
  go_split_ands
  clear hkd
  go_enter Tryd.func22, Tryd.ntmps22
  go_upto_region 4 with (first
    | (go_at_call 9; refine (awake_any _ hT).mono ?_; rintro e w1 ⟨rfl, h1⟩; have K1 : KeptT w w1 := (KeptT.refl hT).step h1; clear h1)
    | (go_at_call 20; refine (B.out _).mono ?_; rintro e w2 ⟨rfl, h2⟩; have K2 : KeptT w w2 := K1.step h2; clear h2)
    | ((with_reducible show wpList _ _ _ (⟨none, Op.store 26 _ _, _, _, _, _⟩ :: _) _ _); refine wpList_store_mid rfl 26 _ _ rfl _ _ (cellsL (belowF 0)).toArray rfl rfl ((zero_box _).there _) (info26' _) (cellsL_all _) ?_; rw [alloc_stored]; obtain ⟨W2, hW2, B2, K3⟩ := held_new K2 (belowF 0); rw [hW2]; clear hW2))
  rw [HK.out]
  clear K1 K2 HK B
  go_wp2_with (first
    | ((with_reducible show wpList _ _ _ (⟨some 23, _, _, _, _, _⟩ :: _) _ _); refine wpList_load_mid rfl 26 _ rfl _ _ rfl _ _ B2.range Tryd.underlying26 rfl (info26 _) ?_)
    | (go_at_call 25; refine (N.out _ K3.2).mono ?_; rintro e w4 ⟨rfl, h4⟩; have B4 := B2.later h4; have K4 := K3.step h4; clear h4)
    | ((with_reducible show wpList _ _ _ (⟨some 30, _, _, _, _, _⟩ :: _) _ _); refine wpList_load_g rfl _ rfl _ _ rfl B4 ?_)
    | (go_at_call 21; refine (L.out _).mono ?_; rintro e w5 ⟨rfl, h5⟩; have B5 := B4.later h5; have K5 := K4.step h5; clear h5)
    | ((with_reducible show wpList _ _ _ (⟨some 36, _, _, _, _, _⟩ :: _) _ _); refine wpList_load_g rfl _ rfl _ _ rfl B5 ?_)
    | (go_at_call 29; refine (H.out _).mono ?_; rintro e w6 ⟨rfl, h6⟩; have K6 := K5.step h6; clear h6))
  all_goals (go_ret; exact ⟨rfl, K6.1⟩)
set_option maxRecDepth 100000 in
set_option maxHeartbeats 2000000 in
theorem lb_mid_a (n o k : Int) (c : Nat) (w : World) (hT : Tab w) (hn : c ≤ 1024) (hk : 0 < (c : Int) ∧ 0 < c) (hkd : wrap64 ((wrap64 (o.tmod 1034 + 1034)).tmod 1034 - 3) = (-1)) (hkb : -3 ≤ k ∧ k ≤ 1030)
    (L : Hid (∀ w, Calls Tryd.prog 21 #[setV (belowF (c : Int))] w fun e w' => e = .returned (.int .i64 (c : Int)) ∧ Below w.heap.size w w'))
    (H : Hid (∀ w, Calls Tryd.prog 29 #[setV (belowF (c : Int)), .int .i64 (-1)] w fun e w' => e = .returned (.bool false) ∧ Below w.heap.size w w'))
    (N : Hid (∀ w, Tab w → Calls Tryd.prog 25 #[setV (belowF (c : Int)), .int .i64 (-1)] w fun e w' => e = .returned (.tuple #[.int .i64 0, .bool true]) ∧ Below w.heap.size w w')) :
    Calls Tryd.prog 22 #[.int .i64 (c : Int), .int .i64 o] w fun e w' => e = .returned (.bool true) ∧ Below w.heap.size w w' := by
  have B := Lib.hid (fun w => below_any (c : Int) w (by omega) (by omega))
  have HK := Lib.hid hkd
  go_split_ands
  clear hkd
  go_enter Tryd.func22, Tryd.ntmps22
  go_upto_region 4 with (first
    | (go_at_call 9; refine (awake_any _ hT).mono ?_; rintro e w1 ⟨rfl, h1⟩; have K1 : KeptT w w1 := (KeptT.refl hT).step h1; clear h1)
    | (go_at_call 20; refine (B.out _).mono ?_; rintro e w2 ⟨rfl, h2⟩; have K2 : KeptT w w2 := K1.step h2; clear h2)
    | ((with_reducible show wpList _ _ _ (⟨none, Op.store 26 _ _, _, _, _, _⟩ :: _) _ _); refine wpList_store_mid rfl 26 _ _ rfl _ _ (cellsL (belowF (c : Int))).toArray rfl rfl ((zero_box _).there _) (info26' _) (cellsL_all _) ?_; rw [alloc_stored]; obtain ⟨W2, hW2, B2, K3⟩ := held_new K2 (belowF (c : Int)); rw [hW2]; clear hW2))
  rw [HK.out]
  clear K1 K2 HK B
  go_wp2_with (first
    | ((with_reducible show wpList _ _ _ (⟨some 23, _, _, _, _, _⟩ :: _) _ _); refine wpList_load_mid rfl 26 _ rfl _ _ rfl _ _ B2.range Tryd.underlying26 rfl (info26 _) ?_)
    | (go_at_call 25; refine (N.out _ K3.2).mono ?_; rintro e w4 ⟨rfl, h4⟩; have B4 := B2.later h4; have K4 := K3.step h4; clear h4)
    | ((with_reducible show wpList _ _ _ (⟨some 30, _, _, _, _, _⟩ :: _) _ _); refine wpList_load_g rfl _ rfl _ _ rfl B4 ?_)
    | (go_at_call 21; refine (L.out _).mono ?_; rintro e w5 ⟨rfl, h5⟩; have B5 := B4.later h5; have K5 := K4.step h5; clear h5)
    | ((with_reducible show wpList _ _ _ (⟨some 36, _, _, _, _, _⟩ :: _) _ _); refine wpList_load_g rfl _ rfl _ _ rfl B5 ?_)
    | (go_at_call 29; refine (H.out _).mono ?_; rintro e w6 ⟨rfl, h6⟩; have K6 := K5.step h6; clear h6))
  all_goals (go_ret; exact ⟨rfl, K6.1⟩)
set_option maxRecDepth 100000 in
set_option maxHeartbeats 2000000 in
theorem lb_mid_b (n o k : Int) (c : Nat) (w : World) (hT : Tab w) (hn : c ≤ 1024) (hk : (k < -1 ∧ k + 1 < 0) ∧ (k + 1 < (c : Int) ∧ (0 < (c : Int) ∧ 0 < c))) (hkd : wrap64 ((wrap64 (o.tmod 1034 + 1034)).tmod 1034 - 3) = k) (hkb : -3 ≤ k ∧ k ≤ 1030)
    (L : Hid (∀ w, Calls Tryd.prog 21 #[setV (belowF (c : Int))] w fun e w' => e = .returned (.int .i64 (c : Int)) ∧ Below w.heap.size w w'))
    (H : Hid (∀ w, Calls Tryd.prog 29 #[setV (belowF (c : Int)), .int .i64 k] w fun e w' => e = .returned (.bool false) ∧ Below w.heap.size w w'))
    (N : Hid (∀ w, Tab w → Calls Tryd.prog 25 #[setV (belowF (c : Int)), .int .i64 k] w fun e w' => e = .returned (.tuple #[.int .i64 0, .bool true]) ∧ Below w.heap.size w w')) :
    Calls Tryd.prog 22 #[.int .i64 (c : Int), .int .i64 o] w fun e w' => e = .returned (.bool true) ∧ Below w.heap.size w w' := by
  have B := Lib.hid (fun w => below_any (c : Int) w (by omega) (by omega))
  have HK := Lib.hid hkd
  go_split_ands
  clear hkd
  go_enter Tryd.func22, Tryd.ntmps22
  go_upto_region 4 with (first
    | (go_at_call 9; refine (awake_any _ hT).mono ?_; rintro e w1 ⟨rfl, h1⟩; have K1 : KeptT w w1 := (KeptT.refl hT).step h1; clear h1)
    | (go_at_call 20; refine (B.out _).mono ?_; rintro e w2 ⟨rfl, h2⟩; have K2 : KeptT w w2 := K1.step h2; clear h2)
    | ((with_reducible show wpList _ _ _ (⟨none, Op.store 26 _ _, _, _, _, _⟩ :: _) _ _); refine wpList_store_mid rfl 26 _ _ rfl _ _ (cellsL (belowF (c : Int))).toArray rfl rfl ((zero_box _).there _) (info26' _) (cellsL_all _) ?_; rw [alloc_stored]; obtain ⟨W2, hW2, B2, K3⟩ := held_new K2 (belowF (c : Int)); rw [hW2]; clear hW2))
  rw [HK.out]
  clear K1 K2 HK B
  go_wp2_with (first
    | ((with_reducible show wpList _ _ _ (⟨some 23, _, _, _, _, _⟩ :: _) _ _); refine wpList_load_mid rfl 26 _ rfl _ _ rfl _ _ B2.range Tryd.underlying26 rfl (info26 _) ?_)
    | (go_at_call 25; refine (N.out _ K3.2).mono ?_; rintro e w4 ⟨rfl, h4⟩; have B4 := B2.later h4; have K4 := K3.step h4; clear h4)
    | ((with_reducible show wpList _ _ _ (⟨some 30, _, _, _, _, _⟩ :: _) _ _); refine wpList_load_g rfl _ rfl _ _ rfl B4 ?_)
    | (go_at_call 21; refine (L.out _).mono ?_; rintro e w5 ⟨rfl, h5⟩; have B5 := B4.later h5; have K5 := K4.step h5; clear h5)
    | ((with_reducible show wpList _ _ _ (⟨some 36, _, _, _, _, _⟩ :: _) _ _); refine wpList_load_g rfl _ rfl _ _ rfl B5 ?_)
    | (go_at_call 29; refine (H.out _).mono ?_; rintro e w6 ⟨rfl, h6⟩; have K6 := K5.step h6; clear h6))
  all_goals (go_ret; exact ⟨rfl, K6.1⟩)
set_option maxRecDepth 100000 in
set_option maxHeartbeats 2000000 in
theorem lb_mid (n o k : Int) (c : Nat) (w : World) (hT : Tab w) (hn : c ≤ 1024) (hk : 0 ≤ k ∧ k + 1 < (c : Int)) (hkd : wrap64 ((wrap64 (o.tmod 1034 + 1034)).tmod 1034 - 3) = k) (hkb : -3 ≤ k ∧ k ≤ 1030)
    (L : Hid (∀ w, Calls Tryd.prog 21 #[setV (belowF (c : Int))] w fun e w' => e = .returned (.int .i64 (c : Int)) ∧ Below w.heap.size w w'))
    (H : Hid (∀ w, Calls Tryd.prog 29 #[setV (belowF (c : Int)), .int .i64 k] w fun e w' => e = .returned (.bool true) ∧ Below w.heap.size w w'))
    (N : Hid (∀ w, Tab w → Calls Tryd.prog 25 #[setV (belowF (c : Int)), .int .i64 k] w fun e w' => e = .returned (.tuple #[.int .i64 (k + 1), .bool true]) ∧ Below w.heap.size w w')) :
    Calls Tryd.prog 22 #[.int .i64 (c : Int), .int .i64 o] w fun e w' => e = .returned (.bool true) ∧ Below w.heap.size w w' := by
  have B := Lib.hid (fun w => below_any (c : Int) w (by omega) (by omega))
  have HK := Lib.hid hkd
  go_split_ands
  clear hkd
  go_enter Tryd.func22, Tryd.ntmps22
  go_upto_region 4 with (first
    | (go_at_call 9; refine (awake_any _ hT).mono ?_; rintro e w1 ⟨rfl, h1⟩; have K1 : KeptT w w1 := (KeptT.refl hT).step h1; clear h1)
    | (go_at_call 20; refine (B.out _).mono ?_; rintro e w2 ⟨rfl, h2⟩; have K2 : KeptT w w2 := K1.step h2; clear h2)
    | ((with_reducible show wpList _ _ _ (⟨none, Op.store 26 _ _, _, _, _, _⟩ :: _) _ _); refine wpList_store_mid rfl 26 _ _ rfl _ _ (cellsL (belowF (c : Int))).toArray rfl rfl ((zero_box _).there _) (info26' _) (cellsL_all _) ?_; rw [alloc_stored]; obtain ⟨W2, hW2, B2, K3⟩ := held_new K2 (belowF (c : Int)); rw [hW2]; clear hW2))
  rw [HK.out]
  clear K1 K2 HK B
  go_wp2_with (first
    | ((with_reducible show wpList _ _ _ (⟨some 23, _, _, _, _, _⟩ :: _) _ _); refine wpList_load_mid rfl 26 _ rfl _ _ rfl _ _ B2.range Tryd.underlying26 rfl (info26 _) ?_)
    | (go_at_call 25; refine (N.out _ K3.2).mono ?_; rintro e w4 ⟨rfl, h4⟩; have B4 := B2.later h4; have K4 := K3.step h4; clear h4)
    | ((with_reducible show wpList _ _ _ (⟨some 30, _, _, _, _, _⟩ :: _) _ _); refine wpList_load_g rfl _ rfl _ _ rfl B4 ?_)
    | (go_at_call 21; refine (L.out _).mono ?_; rintro e w5 ⟨rfl, h5⟩; have B5 := B4.later h5; have K5 := K4.step h5; clear h5)
    | ((with_reducible show wpList _ _ _ (⟨some 36, _, _, _, _, _⟩ :: _) _ _); refine wpList_load_g rfl _ rfl _ _ rfl B5 ?_)
    | (go_at_call 29; refine (H.out _).mono ?_; rintro e w6 ⟨rfl, h6⟩; have K6 := K5.step h6; clear h6))
  all_goals (go_ret; exact ⟨rfl, K6.1⟩)
set_option maxRecDepth 100000 in
set_option maxHeartbeats 2000000 in
theorem lb_mid_e (n o k : Int) (c : Nat) (w : World) (hT : Tab w) (hn : k + 1 ≤ 1024) (hk : 0 ≤ k ∧ 0 < k + 1) (hkd : wrap64 ((wrap64 (o.tmod 1034 + 1034)).tmod 1034 - 3) = k) (hkb : -3 ≤ k ∧ k ≤ 1030)
    (L : Hid (∀ w, Calls Tryd.prog 21 #[setV (belowF (k + 1))] w fun e w' => e = .returned (.int .i64 (k + 1)) ∧ Below w.heap.size w w'))
    (H : Hid (∀ w, Calls Tryd.prog 29 #[setV (belowF (k + 1)), .int .i64 k] w fun e w' => e = .returned (.bool true) ∧ Below w.heap.size w w'))
    (N : Hid (∀ w, Tab w → Calls Tryd.prog 25 #[setV (belowF (k + 1)), .int .i64 k] w fun e w' => e = .returned (.tuple #[.int .i64 0, .bool false]) ∧ Below w.heap.size w w')) :
    Calls Tryd.prog 22 #[.int .i64 (k + 1), .int .i64 o] w fun e w' => e = .returned (.bool true) ∧ Below w.heap.size w w' := by
  have B := Lib.hid (fun w => below_any (k + 1) w (by omega) (by omega))
  have HK := Lib.hid hkd
  go_split_ands
  clear hkd
  go_enter Tryd.func22, Tryd.ntmps22
  go_upto_region 4 with (first
    | (go_at_call 9; refine (awake_any _ hT).mono ?_; rintro e w1 ⟨rfl, h1⟩; have K1 : KeptT w w1 := (KeptT.refl hT).step h1; clear h1)
    | (go_at_call 20; refine (B.out _).mono ?_; rintro e w2 ⟨rfl, h2⟩; have K2 : KeptT w w2 := K1.step h2; clear h2)
    | ((with_reducible show wpList _ _ _ (⟨none, Op.store 26 _ _, _, _, _, _⟩ :: _) _ _); refine wpList_store_mid rfl 26 _ _ rfl _ _ (cellsL (belowF (k + 1))).toArray rfl rfl ((zero_box _).there _) (info26' _) (cellsL_all _) ?_; rw [alloc_stored]; obtain ⟨W2, hW2, B2, K3⟩ := held_new K2 (belowF (k + 1)); rw [hW2]; clear hW2))
  rw [HK.out]
  clear K1 K2 HK B
  go_wp2_with (first
    | ((with_reducible show wpList _ _ _ (⟨some 23, _, _, _, _, _⟩ :: _) _ _); refine wpList_load_mid rfl 26 _ rfl _ _ rfl _ _ B2.range Tryd.underlying26 rfl (info26 _) ?_)
    | (go_at_call 25; refine (N.out _ K3.2).mono ?_; rintro e w4 ⟨rfl, h4⟩; have B4 := B2.later h4; have K4 := K3.step h4; clear h4)
    | ((with_reducible show wpList _ _ _ (⟨some 30, _, _, _, _, _⟩ :: _) _ _); refine wpList_load_g rfl _ rfl _ _ rfl B4 ?_)
    | (go_at_call 21; refine (L.out _).mono ?_; rintro e w5 ⟨rfl, h5⟩; have B5 := B4.later h5; have K5 := K4.step h5; clear h5)
    | ((with_reducible show wpList _ _ _ (⟨some 36, _, _, _, _, _⟩ :: _) _ _); refine wpList_load_g rfl _ rfl _ _ rfl B5 ?_)
    | (go_at_call 29; refine (H.out _).mono ?_; rintro e w6 ⟨rfl, h6⟩; have K6 := K5.step h6; clear h6))
  all_goals (go_ret; exact ⟨rfl, K6.1⟩)
set_option maxRecDepth 100000 in
set_option maxHeartbeats 2000000 in
theorem lb_mid_f (n o k : Int) (c : Nat) (w : World) (hT : Tab w) (hn : c ≤ 1024) (hk : 0 ≤ k ∧ (c : Int) ≤ k ∧ decide (k < (c : Int)) = false) (hkd : wrap64 ((wrap64 (o.tmod 1034 + 1034)).tmod 1034 - 3) = k) (hkb : -3 ≤ k ∧ k ≤ 1030)
    (L : Hid (∀ w, Calls Tryd.prog 21 #[setV (belowF (c : Int))] w fun e w' => e = .returned (.int .i64 (c : Int)) ∧ Below w.heap.size w w'))
    (H : Hid (∀ w, Calls Tryd.prog 29 #[setV (belowF (c : Int)), .int .i64 k] w fun e w' => e = .returned (.bool false) ∧ Below w.heap.size w w'))
    (N : Hid (∀ w, Tab w → Calls Tryd.prog 25 #[setV (belowF (c : Int)), .int .i64 k] w fun e w' => e = .returned (.tuple #[.int .i64 0, .bool false]) ∧ Below w.heap.size w w')) :
    Calls Tryd.prog 22 #[.int .i64 (c : Int), .int .i64 o] w fun e w' => e = .returned (.bool true) ∧ Below w.heap.size w w' := by
  have B := Lib.hid (fun w => below_any (c : Int) w (by omega) (by omega))
  have HK := Lib.hid hkd
  go_split_ands
  clear hkd
  go_enter Tryd.func22, Tryd.ntmps22
  go_upto_region 4 with (first
    | (go_at_call 9; refine (awake_any _ hT).mono ?_; rintro e w1 ⟨rfl, h1⟩; have K1 : KeptT w w1 := (KeptT.refl hT).step h1; clear h1)
    | (go_at_call 20; refine (B.out _).mono ?_; rintro e w2 ⟨rfl, h2⟩; have K2 : KeptT w w2 := K1.step h2; clear h2)
    | ((with_reducible show wpList _ _ _ (⟨none, Op.store 26 _ _, _, _, _, _⟩ :: _) _ _); refine wpList_store_mid rfl 26 _ _ rfl _ _ (cellsL (belowF (c : Int))).toArray rfl rfl ((zero_box _).there _) (info26' _) (cellsL_all _) ?_; rw [alloc_stored]; obtain ⟨W2, hW2, B2, K3⟩ := held_new K2 (belowF (c : Int)); rw [hW2]; clear hW2))
  rw [HK.out]
  clear K1 K2 HK B
  go_wp2_with (first
    | ((with_reducible show wpList _ _ _ (⟨some 23, _, _, _, _, _⟩ :: _) _ _); refine wpList_load_mid rfl 26 _ rfl _ _ rfl _ _ B2.range Tryd.underlying26 rfl (info26 _) ?_)
    | (go_at_call 25; refine (N.out _ K3.2).mono ?_; rintro e w4 ⟨rfl, h4⟩; have B4 := B2.later h4; have K4 := K3.step h4; clear h4)
    | ((with_reducible show wpList _ _ _ (⟨some 30, _, _, _, _, _⟩ :: _) _ _); refine wpList_load_g rfl _ rfl _ _ rfl B4 ?_)
    | (go_at_call 21; refine (L.out _).mono ?_; rintro e w5 ⟨rfl, h5⟩; have B5 := B4.later h5; have K5 := K4.step h5; clear h5)
    | ((with_reducible show wpList _ _ _ (⟨some 36, _, _, _, _, _⟩ :: _) _ _); refine wpList_load_g rfl _ rfl _ _ rfl B5 ?_)
    | (go_at_call 29; refine (H.out _).mono ?_; rintro e w6 ⟨rfl, h6⟩; have K6 := K5.step h6; clear h6))
  all_goals (go_ret; exact ⟨rfl, K6.1⟩)
set_option maxRecDepth 100000 in
set_option maxHeartbeats 2000000 in
theorem lb_hi_a (n o k : Int) (c : Nat) (w : World) (hT : Tab w) (hn : 1024 < n ∧ n ≤ 9223372036854775807) (hk : 0 ≤ (1 : Int) ∧ 0 ≤ (1 : Int)) (hkd : wrap64 ((wrap64 (o.tmod 1034 + 1034)).tmod 1034 - 3) = (-1)) (hkb : -3 ≤ k ∧ k ≤ 1030)
    (L : Hid (∀ w, Calls Tryd.prog 21 #[setV (belowF n)] w fun e w' => e = .returned (.int .i64 1024) ∧ Below w.heap.size w w'))
    (H : Hid (∀ w, Calls Tryd.prog 29 #[setV (belowF n), .int .i64 (-1)] w fun e w' => e = .returned (.bool false) ∧ Below w.heap.size w w'))
    (N : Hid (∀ w, Tab w → Calls Tryd.prog 25 #[setV (belowF n), .int .i64 (-1)] w fun e w' => e = .returned (.tuple #[.int .i64 0, .bool true]) ∧ Below w.heap.size w w')) :
    Calls Tryd.prog 22 #[.int .i64 n, .int .i64 o] w fun e w' => e = .returned (.bool true) ∧ Below w.heap.size w w' := by
  have B := Lib.hid (fun w => below_any n w (by omega) (by omega))
  have HK := Lib.hid hkd
  go_split_ands
  clear hkd
  go_enter Tryd.func22, Tryd.ntmps22
  go_upto_region 4 with (first
    | (go_at_call 9; refine (awake_any _ hT).mono ?_; rintro e w1 ⟨rfl, h1⟩; have K1 : KeptT w w1 := (KeptT.refl hT).step h1; clear h1)
    | (go_at_call 20; refine (B.out _).mono ?_; rintro e w2 ⟨rfl, h2⟩; have K2 : KeptT w w2 := K1.step h2; clear h2)
    | ((with_reducible show wpList _ _ _ (⟨none, Op.store 26 _ _, _, _, _, _⟩ :: _) _ _); refine wpList_store_mid rfl 26 _ _ rfl _ _ (cellsL (belowF n)).toArray rfl rfl ((zero_box _).there _) (info26' _) (cellsL_all _) ?_; rw [alloc_stored]; obtain ⟨W2, hW2, B2, K3⟩ := held_new K2 (belowF n); rw [hW2]; clear hW2))
  rw [HK.out]
  clear K1 K2 HK B
  go_wp2_with (first
    | ((with_reducible show wpList _ _ _ (⟨some 23, _, _, _, _, _⟩ :: _) _ _); refine wpList_load_mid rfl 26 _ rfl _ _ rfl _ _ B2.range Tryd.underlying26 rfl (info26 _) ?_)
    | (go_at_call 25; refine (N.out _ K3.2).mono ?_; rintro e w4 ⟨rfl, h4⟩; have B4 := B2.later h4; have K4 := K3.step h4; clear h4)
    | ((with_reducible show wpList _ _ _ (⟨some 30, _, _, _, _, _⟩ :: _) _ _); refine wpList_load_g rfl _ rfl _ _ rfl B4 ?_)
    | (go_at_call 21; refine (L.out _).mono ?_; rintro e w5 ⟨rfl, h5⟩; have B5 := B4.later h5; have K5 := K4.step h5; clear h5)
    | ((with_reducible show wpList _ _ _ (⟨some 36, _, _, _, _, _⟩ :: _) _ _); refine wpList_load_g rfl _ rfl _ _ rfl B5 ?_)
    | (go_at_call 29; refine (H.out _).mono ?_; rintro e w6 ⟨rfl, h6⟩; have K6 := K5.step h6; clear h6))
  all_goals (go_ret; exact ⟨rfl, K6.1⟩)
set_option maxRecDepth 100000 in
set_option maxHeartbeats 2000000 in
theorem lb_hi_b (n o k : Int) (c : Nat) (w : World) (hT : Tab w) (hn : 1024 < n ∧ n ≤ 9223372036854775807) (hk : k < -1 ∧ k + 1 < 0) (hkd : wrap64 ((wrap64 (o.tmod 1034 + 1034)).tmod 1034 - 3) = k) (hkb : -3 ≤ k ∧ k ≤ 1030)
    (L : Hid (∀ w, Calls Tryd.prog 21 #[setV (belowF n)] w fun e w' => e = .returned (.int .i64 1024) ∧ Below w.heap.size w w'))
    (H : Hid (∀ w, Calls Tryd.prog 29 #[setV (belowF n), .int .i64 k] w fun e w' => e = .returned (.bool false) ∧ Below w.heap.size w w'))
    (N : Hid (∀ w, Tab w → Calls Tryd.prog 25 #[setV (belowF n), .int .i64 k] w fun e w' => e = .returned (.tuple #[.int .i64 0, .bool true]) ∧ Below w.heap.size w w')) :
    Calls Tryd.prog 22 #[.int .i64 n, .int .i64 o] w fun e w' => e = .returned (.bool true) ∧ Below w.heap.size w w' := by
  have B := Lib.hid (fun w => below_any n w (by omega) (by omega))
  have HK := Lib.hid hkd
  go_split_ands
  clear hkd
  go_enter Tryd.func22, Tryd.ntmps22
  go_upto_region 4 with (first
    | (go_at_call 9; refine (awake_any _ hT).mono ?_; rintro e w1 ⟨rfl, h1⟩; have K1 : KeptT w w1 := (KeptT.refl hT).step h1; clear h1)
    | (go_at_call 20; refine (B.out _).mono ?_; rintro e w2 ⟨rfl, h2⟩; have K2 : KeptT w w2 := K1.step h2; clear h2)
    | ((with_reducible show wpList _ _ _ (⟨none, Op.store 26 _ _, _, _, _, _⟩ :: _) _ _); refine wpList_store_mid rfl 26 _ _ rfl _ _ (cellsL (belowF n)).toArray rfl rfl ((zero_box _).there _) (info26' _) (cellsL_all _) ?_; rw [alloc_stored]; obtain ⟨W2, hW2, B2, K3⟩ := held_new K2 (belowF n); rw [hW2]; clear hW2))
  rw [HK.out]
  clear K1 K2 HK B
  go_wp2_with (first
    | ((with_reducible show wpList _ _ _ (⟨some 23, _, _, _, _, _⟩ :: _) _ _); refine wpList_load_mid rfl 26 _ rfl _ _ rfl _ _ B2.range Tryd.underlying26 rfl (info26 _) ?_)
    | (go_at_call 25; refine (N.out _ K3.2).mono ?_; rintro e w4 ⟨rfl, h4⟩; have B4 := B2.later h4; have K4 := K3.step h4; clear h4)
    | ((with_reducible show wpList _ _ _ (⟨some 30, _, _, _, _, _⟩ :: _) _ _); refine wpList_load_g rfl _ rfl _ _ rfl B4 ?_)
    | (go_at_call 21; refine (L.out _).mono ?_; rintro e w5 ⟨rfl, h5⟩; have B5 := B4.later h5; have K5 := K4.step h5; clear h5)
    | ((with_reducible show wpList _ _ _ (⟨some 36, _, _, _, _, _⟩ :: _) _ _); refine wpList_load_g rfl _ rfl _ _ rfl B5 ?_)
    | (go_at_call 29; refine (H.out _).mono ?_; rintro e w6 ⟨rfl, h6⟩; have K6 := K5.step h6; clear h6))
  all_goals (go_ret; exact ⟨rfl, K6.1⟩)
set_option maxRecDepth 100000 in
set_option maxHeartbeats 2000000 in
theorem lb_hi_d (n o k : Int) (c : Nat) (w : World) (hT : Tab w) (hn : 1024 < n ∧ n ≤ 9223372036854775807) (hk : 0 ≤ k ∧ k + 1 < 1024) (hkd : wrap64 ((wrap64 (o.tmod 1034 + 1034)).tmod 1034 - 3) = k) (hkb : -3 ≤ k ∧ k ≤ 1030)
    (L : Hid (∀ w, Calls Tryd.prog 21 #[setV (belowF n)] w fun e w' => e = .returned (.int .i64 1024) ∧ Below w.heap.size w w'))
    (H : Hid (∀ w, Calls Tryd.prog 29 #[setV (belowF n), .int .i64 k] w fun e w' => e = .returned (.bool true) ∧ Below w.heap.size w w'))
    (N : Hid (∀ w, Tab w → Calls Tryd.prog 25 #[setV (belowF n), .int .i64 k] w fun e w' => e = .returned (.tuple #[.int .i64 (k + 1), .bool true]) ∧ Below w.heap.size w w')) :
    Calls Tryd.prog 22 #[.int .i64 n, .int .i64 o] w fun e w' => e = .returned (.bool true) ∧ Below w.heap.size w w' := by
  have B := Lib.hid (fun w => below_any n w (by omega) (by omega))
  have HK := Lib.hid hkd
  go_split_ands
  clear hkd
  go_enter Tryd.func22, Tryd.ntmps22
  go_upto_region 4 with (first
    | (go_at_call 9; refine (awake_any _ hT).mono ?_; rintro e w1 ⟨rfl, h1⟩; have K1 : KeptT w w1 := (KeptT.refl hT).step h1; clear h1)
    | (go_at_call 20; refine (B.out _).mono ?_; rintro e w2 ⟨rfl, h2⟩; have K2 : KeptT w w2 := K1.step h2; clear h2)
    | ((with_reducible show wpList _ _ _ (⟨none, Op.store 26 _ _, _, _, _, _⟩ :: _) _ _); refine wpList_store_mid rfl 26 _ _ rfl _ _ (cellsL (belowF n)).toArray rfl rfl ((zero_box _).there _) (info26' _) (cellsL_all _) ?_; rw [alloc_stored]; obtain ⟨W2, hW2, B2, K3⟩ := held_new K2 (belowF n); rw [hW2]; clear hW2))
  rw [HK.out]
  clear K1 K2 HK B
  go_wp2_with (first
    | ((with_reducible show wpList _ _ _ (⟨some 23, _, _, _, _, _⟩ :: _) _ _); refine wpList_load_mid rfl 26 _ rfl _ _ rfl _ _ B2.range Tryd.underlying26 rfl (info26 _) ?_)
    | (go_at_call 25; refine (N.out _ K3.2).mono ?_; rintro e w4 ⟨rfl, h4⟩; have B4 := B2.later h4; have K4 := K3.step h4; clear h4)
    | ((with_reducible show wpList _ _ _ (⟨some 30, _, _, _, _, _⟩ :: _) _ _); refine wpList_load_g rfl _ rfl _ _ rfl B4 ?_)
    | (go_at_call 21; refine (L.out _).mono ?_; rintro e w5 ⟨rfl, h5⟩; have B5 := B4.later h5; have K5 := K4.step h5; clear h5)
    | ((with_reducible show wpList _ _ _ (⟨some 36, _, _, _, _, _⟩ :: _) _ _); refine wpList_load_g rfl _ rfl _ _ rfl B5 ?_)
    | (go_at_call 29; refine (H.out _).mono ?_; rintro e w6 ⟨rfl, h6⟩; have K6 := K5.step h6; clear h6))
  all_goals (go_ret; exact ⟨rfl, K6.1⟩)
set_option maxRecDepth 100000 in
set_option maxHeartbeats 2000000 in
theorem lb_hi_e (n o k : Int) (c : Nat) (w : World) (hT : Tab w) (hn : 1024 < n ∧ n ≤ 9223372036854775807) (hk : 0 ≤ (1 : Int) ∧ 0 ≤ (1 : Int)) (hkd : wrap64 ((wrap64 (o.tmod 1034 + 1034)).tmod 1034 - 3) = 1023) (hkb : -3 ≤ k ∧ k ≤ 1030)
    (L : Hid (∀ w, Calls Tryd.prog 21 #[setV (belowF n)] w fun e w' => e = .returned (.int .i64 1024) ∧ Below w.heap.size w w'))
    (H : Hid (∀ w, Calls Tryd.prog 29 #[setV (belowF n), .int .i64 1023] w fun e w' => e = .returned (.bool true) ∧ Below w.heap.size w w'))
    (N : Hid (∀ w, Tab w → Calls Tryd.prog 25 #[setV (belowF n), .int .i64 1023] w fun e w' => e = .returned (.tuple #[.int .i64 0, .bool false]) ∧ Below w.heap.size w w')) :
    Calls Tryd.prog 22 #[.int .i64 n, .int .i64 o] w fun e w' => e = .returned (.bool true) ∧ Below w.heap.size w w' := by
  have B := Lib.hid (fun w => below_any n w (by omega) (by omega))
  have HK := Lib.hid hkd
  go_split_ands
  clear hkd
  go_enter Tryd.func22, Tryd.ntmps22
  go_upto_region 4 with (first
    | (go_at_call 9; refine (awake_any _ hT).mono ?_; rintro e w1 ⟨rfl, h1⟩; have K1 : KeptT w w1 := (KeptT.refl hT).step h1; clear h1)
    | (go_at_call 20; refine (B.out _).mono ?_; rintro e w2 ⟨rfl, h2⟩; have K2 : KeptT w w2 := K1.step h2; clear h2)
    | ((with_reducible show wpList _ _ _ (⟨none, Op.store 26 _ _, _, _, _, _⟩ :: _) _ _); refine wpList_store_mid rfl 26 _ _ rfl _ _ (cellsL (belowF n)).toArray rfl rfl ((zero_box _).there _) (info26' _) (cellsL_all _) ?_; rw [alloc_stored]; obtain ⟨W2, hW2, B2, K3⟩ := held_new K2 (belowF n); rw [hW2]; clear hW2))
  rw [HK.out]
  clear K1 K2 HK B
  go_wp2_with (first
    | ((with_reducible show wpList _ _ _ (⟨some 23, _, _, _, _, _⟩ :: _) _ _); refine wpList_load_mid rfl 26 _ rfl _ _ rfl _ _ B2.range Tryd.underlying26 rfl (info26 _) ?_)
    | (go_at_call 25; refine (N.out _ K3.2).mono ?_; rintro e w4 ⟨rfl, h4⟩; have B4 := B2.later h4; have K4 := K3.step h4; clear h4)
    | ((with_reducible show wpList _ _ _ (⟨some 30, _, _, _, _, _⟩ :: _) _ _); refine wpList_load_g rfl _ rfl _ _ rfl B4 ?_)
    | (go_at_call 21; refine (L.out _).mono ?_; rintro e w5 ⟨rfl, h5⟩; have B5 := B4.later h5; have K5 := K4.step h5; clear h5)
    | ((with_reducible show wpList _ _ _ (⟨some 36, _, _, _, _, _⟩ :: _) _ _); refine wpList_load_g rfl _ rfl _ _ rfl B5 ?_)
    | (go_at_call 29; refine (H.out _).mono ?_; rintro e w6 ⟨rfl, h6⟩; have K6 := K5.step h6; clear h6))
  all_goals (go_ret; exact ⟨rfl, K6.1⟩)
set_option maxRecDepth 100000 in
set_option maxHeartbeats 2000000 in
theorem lb_hi_f (n o k : Int) (c : Nat) (w : World) (hT : Tab w) (hn : 1024 < n ∧ n ≤ 9223372036854775807) (hk : 0 ≤ k ∧ 1024 ≤ k ∧ decide (k < 1024) = false) (hkd : wrap64 ((wrap64 (o.tmod 1034 + 1034)).tmod 1034 - 3) = k) (hkb : -3 ≤ k ∧ k ≤ 1030)
    (L : Hid (∀ w, Calls Tryd.prog 21 #[setV (belowF n)] w fun e w' => e = .returned (.int .i64 1024) ∧ Below w.heap.size w w'))
    (H : Hid (∀ w, Calls Tryd.prog 29 #[setV (belowF n), .int .i64 k] w fun e w' => e = .returned (.bool false) ∧ Below w.heap.size w w'))
    (N : Hid (∀ w, Tab w → Calls Tryd.prog 25 #[setV (belowF n), .int .i64 k] w fun e w' => e = .returned (.tuple #[.int .i64 0, .bool false]) ∧ Below w.heap.size w w')) :
    Calls Tryd.prog 22 #[.int .i64 n, .int .i64 o] w fun e w' => e = .returned (.bool true) ∧ Below w.heap.size w w' := by
  have B := Lib.hid (fun w => below_any n w (by omega) (by omega))
  have HK := Lib.hid hkd
  go_split_ands
  clear hkd
  go_enter Tryd.func22, Tryd.ntmps22
  go_upto_region 4 with (first
    | (go_at_call 9; refine (awake_any _ hT).mono ?_; rintro e w1 ⟨rfl, h1⟩; have K1 : KeptT w w1 := (KeptT.refl hT).step h1; clear h1)
    | (go_at_call 20; refine (B.out _).mono ?_; rintro e w2 ⟨rfl, h2⟩; have K2 : KeptT w w2 := K1.step h2; clear h2)
    | ((with_reducible show wpList _ _ _ (⟨none, Op.store 26 _ _, _, _, _, _⟩ :: _) _ _); refine wpList_store_mid rfl 26 _ _ rfl _ _ (cellsL (belowF n)).toArray rfl rfl ((zero_box _).there _) (info26' _) (cellsL_all _) ?_; rw [alloc_stored]; obtain ⟨W2, hW2, B2, K3⟩ := held_new K2 (belowF n); rw [hW2]; clear hW2))
  rw [HK.out]
  clear K1 K2 HK B
  go_wp2_with (first
    | ((with_reducible show wpList _ _ _ (⟨some 23, _, _, _, _, _⟩ :: _) _ _); refine wpList_load_mid rfl 26 _ rfl _ _ rfl _ _ B2.range Tryd.underlying26 rfl (info26 _) ?_)
    | (go_at_call 25; refine (N.out _ K3.2).mono ?_; rintro e w4 ⟨rfl, h4⟩; have B4 := B2.later h4; have K4 := K3.step h4; clear h4)
    | ((with_reducible show wpList _ _ _ (⟨some 30, _, _, _, _, _⟩ :: _) _ _); refine wpList_load_g rfl _ rfl _ _ rfl B4 ?_)
    | (go_at_call 21; refine (L.out _).mono ?_; rintro e w5 ⟨rfl, h5⟩; have B5 := B4.later h5; have K5 := K4.step h5; clear h5)
    | ((with_reducible show wpList _ _ _ (⟨some 36, _, _, _, _, _⟩ :: _) _ _); refine wpList_load_g rfl _ rfl _ _ rfl B5 ?_)
    | (go_at_call 29; refine (H.out _).mono ?_; rintro e w6 ⟨rfl, h6⟩; have K6 := K5.step h6; clear h6))
  all_goals (go_ret; exact ⟨rfl, K6.1⟩)

theorem lawBelow_any (n o : Int) (w : World) (hT : Tab w) (h0 : -9223372036854775808 ≤ n) (h1 : n ≤ 9223372036854775807) :
    Calls Tryd.prog 22 #[.int .i64 n, .int .i64 o] w fun e w' => e = .returned (.bool true) ∧ Below w.heap.size w w' := by
  have hkb := k_bd o
  obtain ⟨k, hk⟩ : ∃ k, wrap64 ((wrap64 (o.tmod 1034 + 1034)).tmod 1034 - 3) = k := ⟨_, rfl⟩
  rw [hk] at hkb
  have L := fun w => len_any (belowF n) w
  have H := fun w => has_any (belowF n) k w (by omega) (by omega)
  have N := fun w hT => next_any (belowF n) k w hT (by omega) (by omega)
  by_cases a : n < 0
  · have hj : ∀ j : Nat, j < 1024 → ((j : Int) < n ↔ j < 0) := fun j _ => by omega
    rw [cnt_below n 0 (by omega) hj] at L
    rw [has_below n k 0 hj (by omega), decide_eq_false (by omega)] at H
    obtain ⟨e1, e2⟩ := next_no n k 0 hj (by omega)
    rw [e1, e2] at N
    by_cases c1 : k = -1
    · subst c1; exact lb_lo_a n o 0 0 w hT ⟨h0, a⟩ (by omega) hk (by omega) (Lib.hid L) (Lib.hid H) (Lib.hid N)
    · by_cases c2 : k < 0
      · exact lb_lo_b n o k 0 w hT ⟨h0, a⟩ (by omega) hk hkb (Lib.hid L) (Lib.hid H) (Lib.hid N)
      · exact lb_lo_c n o k 0 w hT ⟨h0, a⟩ ⟨by omega, by omega, decide_eq_false (by omega)⟩ hk hkb (Lib.hid L) (Lib.hid H) (Lib.hid N)
  · by_cases b : n = 0
    · subst b
      have hj : ∀ j : Nat, j < 1024 → ((j : Int) < 0 ↔ j < 0) := fun j _ => by omega
      rw [cnt_below 0 0 (by omega) hj] at L
      rw [has_below 0 k 0 hj (by omega), decide_eq_false (by omega)] at H
      obtain ⟨e1, e2⟩ := next_no 0 k 0 hj (by omega)
      rw [e1, e2] at N
      by_cases c1 : k = -1
      · subst c1; exact lb_z_a 0 o 0 0 w hT (by omega) (by omega) hk (by omega) (Lib.hid L) (Lib.hid H) (Lib.hid N)
      · by_cases c2 : k < 0
        · exact lb_z_b 0 o k 0 w hT (by omega) (by omega) hk hkb (Lib.hid L) (Lib.hid H) (Lib.hid N)
        · exact lb_z_c 0 o k 0 w hT (by omega) ⟨by omega, by omega, decide_eq_false (by omega)⟩ hk hkb (Lib.hid L) (Lib.hid H) (Lib.hid N)
    · by_cases d : n ≤ 1024
      · obtain ⟨c, rfl⟩ := Int.eq_ofNat_of_zero_le (by omega : 0 ≤ n)
        have hj : ∀ j : Nat, j < 1024 → ((j : Int) < (c : Int) ↔ j < c) := fun j _ => by omega
        have hc : c ≤ 1024 := by omega
        rw [cnt_below (c : Int) c hc hj] at L
        by_cases f1 : k + 1 < (c : Int)
        · by_cases c2 : k < 0
          · rw [has_below (c : Int) k c hj hc, decide_eq_false (by omega)] at H
            obtain ⟨e1, e2⟩ := next_yes (c : Int) k c 0 hc hj (by omega) (by omega)
            rw [e1, e2] at N
            by_cases c1 : k = -1
            · subst c1; exact lb_mid_a 0 o 0 c w hT hc (by omega) hk (by omega) (Lib.hid L) (Lib.hid H) (Lib.hid N)
            · exact lb_mid_b 0 o k c w hT hc (by omega) hk hkb (Lib.hid L) (Lib.hid H) (Lib.hid N)
          · rw [has_below (c : Int) k c hj hc, decide_eq_true (by omega)] at H
            obtain ⟨m, hm⟩ := Int.eq_ofNat_of_zero_le (by omega : 0 ≤ k + 1)
            obtain ⟨e1, e2⟩ := next_yes (c : Int) k c m hc hj (by omega) (by omega)
            rw [e1, e2, ← hm] at N
            exact lb_mid 0 o k c w hT hc (by omega) hk hkb (Lib.hid L) (Lib.hid H) (Lib.hid N)
        · obtain ⟨e1, e2⟩ := next_no (c : Int) k c hj (by omega)
          rw [e1, e2] at N
          by_cases f2 : k + 1 = (c : Int)
          · rw [has_below (c : Int) k c hj hc, decide_eq_true (by omega)] at H
            rw [← f2] at L H N ⊢
            exact lb_mid_e 0 o k 0 w hT (by omega) (by omega) hk hkb (Lib.hid L) (Lib.hid H) (Lib.hid N)
          · rw [has_below (c : Int) k c hj hc, decide_eq_false (by omega)] at H
            exact lb_mid_f 0 o k c w hT hc ⟨by omega, by omega, decide_eq_false (by omega)⟩ hk hkb (Lib.hid L) (Lib.hid H) (Lib.hid N)
      · have hj : ∀ j : Nat, j < 1024 → ((j : Int) < n ↔ j < 1024) := fun j _ => by omega
        rw [cnt_below n 1024 (by omega) hj] at L
        by_cases f1 : k + 1 < 1024
        · by_cases c2 : k < 0
          · rw [has_below n k 1024 hj (by omega), decide_eq_false (by omega)] at H
            obtain ⟨e1, e2⟩ := next_yes n k 1024 0 (by omega) hj (by omega) (by omega)
            rw [e1, e2] at N
            by_cases c1 : k = -1
            · subst c1; exact lb_hi_a n o 0 0 w hT (by omega) (by omega) hk (by omega) (Lib.hid L) (Lib.hid H) (Lib.hid N)
            · exact lb_hi_b n o k 0 w hT (by omega) (by omega) hk hkb (Lib.hid L) (Lib.hid H) (Lib.hid N)
          · rw [has_below n k 1024 hj (by omega), decide_eq_true (by omega)] at H
            obtain ⟨m, hm⟩ := Int.eq_ofNat_of_zero_le (by omega : 0 ≤ k + 1)
            obtain ⟨e1, e2⟩ := next_yes n k 1024 m (by omega) hj (by omega) (by omega)
            rw [e1, e2, ← hm] at N
            exact lb_hi_d n o k 0 w hT (by omega) (by omega) hk hkb (Lib.hid L) (Lib.hid H) (Lib.hid N)
        · obtain ⟨e1, e2⟩ := next_no n k 1024 hj (by omega)
          rw [e1, e2] at N
          by_cases f2 : k = 1023
          · subst f2
            rw [has_below n 1023 1024 hj (by omega), decide_eq_true (by omega)] at H
            exact lb_hi_e n o 0 0 w hT (by omega) (by omega) hk (by omega) (Lib.hid L) (Lib.hid H) (Lib.hid N)
          · rw [has_below n k 1024 hj (by omega), decide_eq_false (by omega)] at H
            exact lb_hi_f n o k 0 w hT (by omega) ⟨by omega, by omega, decide_eq_false (by omega)⟩ hk hkb (Lib.hid L) (Lib.hid H) (Lib.hid N)
end Go.Proofs.YthmngibmpkgjkaaDoor
