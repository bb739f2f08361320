/- Contracts of package marks' functions: Has, Or, Minus, Below. -/
import Derived.Test.YtapeklpnjckfkaaMOps
namespace Go.Proofs.Ytapeklpnjckfkaa
open Go.RowKit
set_option linter.unusedVariables false

def hasB (f : Nat → Bool) (n : Int) : Bool := mayB n && f n.toNat
theorem hasB_nat (f : Nat → Bool) (k : Nat) (h : k < 1024) : hasB f (k : Int) = f k := by simp [hasB, mayB_nat k h]

theorem and_ne_zero (f : Nat → Bool) (k : Nat) : ((((word f (k / 64) &&& 2 ^ (k % 64) : Nat)) : Int) != 0) = f k := by
  rw [word_has]
  have := Nat.two_pow_pos (k % 64)
  generalize 2 ^ (k % 64) = p at *
  cases f k
  · simp
  · simp; omega

set_option maxHeartbeats 1000000 in
theorem has_any (f : Nat → Bool) (n : Int) (w : World) (h0 : -9223372036854775808 ≤ n) (h1 : n ≤ 9223372036854775807) :
    Calls Try.prog 20 #[setV f, .int .i64 n] w fun e w' => e = .returned (.bool (hasB f n)) ∧ Below w.heap.size w w' := by
  have M := Lib.hid (may_any n)
  by_cases hn : 0 ≤ n ∧ n < 1024
  · obtain ⟨k, rfl⟩ := Int.eq_ofNat_of_zero_le hn.1
    have hk : k < 1024 := by omega
    rw [mayB_nat k hk] at M
    rw [hasB_nat f k hk]
    have B := Lib.hid (fun w => bit_any k w hk)
    have b1 := Box.new w f
    have hb := (Below.refl w.heap.size w).alloc (Nat.le_refl _) (.cells (cellsL f).toArray 41)
    go_enter Try.func20, Try.ntmps20
    go_wp2_with (go_at_call 38; refine (M.out _ h0 h1).mono ?_; rintro e w' ⟨rfl, rfl⟩)
    generalize w.alloc (.cells (cellsL f).toArray 41) = W at *
    have c1 := b1.cell (k / 64) (by omega)
    have a1 := shr6 k
    have hq : k / 64 < 16 := by omega
    have hx := word_le f (k / 64)
    have hp : 2 ^ (k % 64) < 18446744073709551616 := Nat.pow_lt_pow_right (a := 2) (n := 64) (by omega) (by omega)
    have a2 := u64_and_nat (word f (k / 64)) (2 ^ (k % 64)) (by omega) hp
    have he := and_ne_zero f k
    generalize hV : word f (k / 64) &&& 2 ^ (k % 64) = v at *
    generalize hX : word f (k / 64) = x at *
    generalize hP : 2 ^ (k % 64) = p at *
    generalize hQ : k / 64 = q at *
    clear hX hP hQ hV
    have HE := Lib.hid he
    have hb' := Lib.hid hb
    clear he hb
    go_quiet ((first
      | (go_at_call 38; exact Calls.quiet_of_same ((M.out _ h0 h1).mono (fun _ _ h => ⟨h.1, h.2.symm⟩)))
      | (go_at_call 39; exact Calls.quiet_of_same ((B.out _).mono (fun _ _ h => ⟨h.1, h.2.symm⟩)))))
    go_wp2
    go_ret
    exact ⟨by rw [HE.out]; rfl, drewN_below hb'.out _⟩
  · have e : mayB n = false := by simpa [mayB] using hn
    have e2 : hasB f n = false := by simp [hasB, e]
    rw [e] at M
    rw [e2]
    clear e e2 hn
    have hb := (Below.refl w.heap.size w).alloc (Nat.le_refl _) (.cells (cellsL f).toArray 41)
    go_enter Try.func20, Try.ntmps20
    go_wp2_with (go_at_call 38; refine (M.out _ h0 h1).mono ?_; rintro e w' ⟨rfl, rfl⟩)
    generalize w.alloc (.cells (cellsL f).toArray 41) = W at *
    have hb' := Lib.hid hb
    clear hb
    go_quiet ((go_at_call 38; exact Calls.quiet_of_same ((M.out _ h0 h1).mono (fun _ _ h => ⟨h.1, h.2.symm⟩))))
    go_wp2
    go_ret
    exact ⟨rfl, drewN_below hb'.out _⟩

/-! ### Or -/
/-- f up to word i is as g, and behind it as f. -/
def mixF (h f : Nat → Bool) (i : Nat) : Nat → Bool := fun k => if k < 64 * i then h k else f k
theorem word_mix_lt (h f : Nat → Bool) (i j : Nat) (hj : j < i) : word (mixF h f i) j = word h j :=
  word_ext fun k hk => by simp only [mixF]; rw [if_pos (by omega)]
theorem word_mix_ge (h f : Nat → Bool) (i j : Nat) (hj : i ≤ j) : word (mixF h f i) j = word f j :=
  word_ext fun k hk => by simp only [mixF]; rw [if_neg (by omega)]
theorem cells_mix_0 (h f : Nat → Bool) : cellsL (mixF h f 0) = cellsL f := cellsL_ext fun i _ => word_mix_ge h f 0 i (by omega)
theorem cells_mix_16 (h f : Nat → Bool) : cellsL (mixF h f 16) = cellsL h := cellsL_ext fun i hi => word_mix_lt h f 16 i hi
theorem Box.mixStep {w : World} {b : Nat} {h f : Nat → Bool} {i : Nat} (hb : Box w b (mixF h f i)) (v : Nat) (hv : v = word h i) : Box (w.setCell ⟨b, i, none⟩ (.int .u64 v)) b (mixF h f (i + 1)) :=
  hb.set i v (by rw [hv, word_mix_lt h f (i + 1) i (by omega)]) fun j _ hne => by
    by_cases hlt : j < i
    · rw [word_mix_lt _ _ _ _ hlt, word_mix_lt _ _ _ _ (by omega)]
    · rw [word_mix_ge _ _ _ _ (by omega), word_mix_ge _ _ _ _ (by omega)]
theorem Box.of_eq {w : World} {b : Nat} {f g : Nat → Bool} (h : Box w b f) (e : cellsL f = cellsL g) : Box w b g := ⟨by rw [← e]; exact h.is⟩

theorem run_idx (g : Nat → Bool) (k : Nat) (hk : k < 16) (w : World) : (Instr.index 41 (.agg (cellsL g).toArray) (.int .i64 (k : Int))).run Try.prog w = .ok (.int .u64 (word g k : Int)) w := by
  have hn : (0 : Int) ≤ (k : Int) ∧ (k : Int) < (16 : Nat) := by omega
  have hg := cellsL_get g k hk
  have hlt : k < (cellsL g).length := by rw [cellsL_length]; exact hk
  simp [Instr.index, run_underlying Try.underlying41, asIntOf, hn, go_sem, hg]
  intro h
  omega

set_option maxHeartbeats 1000000 in
theorem or_any (f g : Nat → Bool) (w : World) :
    Calls Try.prog 19 #[setV f, setV g] w fun e w' => e = .returned (setV (orF f g)) ∧ Below w.heap.size w w' := by
  obtain ⟨W, hW, b1, b2, b3, hb⟩ := entry2 w f g
  have HW := Lib.hid hW
  clear hW
  go_enter Try.func19, Try.ntmps19
  go_wp2_with ((with_reducible show wpList _ _ _ (⟨some 7, _, _, _, _, _⟩ :: _) _ _); rw [HW.out]; refine wpList_load_mid rfl 41 _ rfl _ _ rfl _ _ b2.range Try.underlying41 rfl (info26 _) ?_)
  go_loopw [8] (fun i wr => ∃ k : Nat, k ≤ 16 ∧ i = .int .i64 k ∧ Box wr w.heap.size (mixF (orF f g) f k) ∧ Box wr (w.heap.size + 1 + 1) noneF ∧ Below w.heap.size w wr) (fun i _ => 16 - (intOf i).toNat)
  case atStart => exact ⟨0, by omega, rfl, b1.of_eq (cells_mix_0 _ _).symm, b3, hb⟩
  case round =>
    obtain ⟨k, hk, rfl, c1, c3, hb1⟩ := hrel
    clear b1 b2 b3 hb HW
    by_cases hlt : k < 16
    · have hx := word_le f k
      have hy := word_le g k
      have e0 := run_idx g k hlt
      have d1 := c1.cell k hlt
      have d2 := c1.frozen k
      rw [word_mix_ge _ _ _ _ (Nat.le_refl k)] at d1
      have a1 := u64_or_nat (word f k) (word g k) (by omega) (by omega)
      have hv := word_or f g k
      generalize hV : word f k ||| word g k = v at *
      have HV := Lib.hid hv
      clear hV hv
      generalize word f k = x at *
      generalize word g k = y at *
      go_wp2
      go_roundw
      case rel => exact ⟨k + 1, by omega, by go_num, c1.mixStep v HV.out, c3.setCell _ _ (by simp; omega), hb1.setCell (p := ⟨w.heap.size, k, none⟩) (Nat.le_refl _) _⟩
      case measure => simp [intOf]; omega
    · go_wp2_with (first
        | ((with_reducible show wpList _ _ _ (⟨some 19, _, _, _, _, _⟩ :: _) _ _); refine wpList_load_mid rfl 41 _ rfl _ _ rfl _ _ c1.range Try.underlying41 rfl (info26 _) ?_)
        | ((with_reducible show wpList _ _ _ (⟨none, _, _, _, _, _⟩ :: _) _ _); refine wpList_store_mid rfl 41 _ _ rfl _ _ (cellsL (mixF (orF f g) f k)).toArray rfl rfl (c3.there _) (info26' _) (cellsL_all _) ?_)
        | ((with_reducible show bodyPost _ _ _ _ _ _); exact bodyPost_ret (results_box rfl _ _ _ _ rfl ((c3.setCells _).of_eq (by rw [show k = 16 by omega]; exact cells_mix_16 _ _))) rfl ⟨rfl, below_setCells hb1 c3 _ (by omega)⟩))
set_option maxHeartbeats 1000000 in
theorem minus_any (f g : Nat → Bool) (w : World) :
    Calls Try.prog 22 #[setV f, setV g] w fun e w' => e = .returned (setV (minusF f g)) ∧ Below w.heap.size w w' := by
  obtain ⟨W, hW, b1, b2, b3, hb⟩ := entry2 w f g
  have HW := Lib.hid hW
  clear hW
  go_enter Try.func22, Try.ntmps22
  go_wp2_with ((with_reducible show wpList _ _ _ (⟨some 7, _, _, _, _, _⟩ :: _) _ _); rw [HW.out]; refine wpList_load_mid rfl 41 _ rfl _ _ rfl _ _ b2.range Try.underlying41 rfl (info26 _) ?_)
  go_loopw [8] (fun i wr => ∃ k : Nat, k ≤ 16 ∧ i = .int .i64 k ∧ Box wr w.heap.size (mixF (minusF f g) f k) ∧ Box wr (w.heap.size + 1 + 1) noneF ∧ Below w.heap.size w wr) (fun i _ => 16 - (intOf i).toNat)
  case atStart => exact ⟨0, by omega, rfl, b1.of_eq (cells_mix_0 _ _).symm, b3, hb⟩
  case round =>
    obtain ⟨k, hk, rfl, c1, c3, hb1⟩ := hrel
    clear b1 b2 b3 hb HW
    by_cases hlt : k < 16
    · have hx := word_le f k
      have hy := word_le g k
      have e0 := run_idx g k hlt
      have d1 := c1.cell k hlt
      have d2 := c1.frozen k
      rw [word_mix_ge _ _ _ _ (Nat.le_refl k)] at d1
      have a1 := u64_andNot_nat (word f k) (word g k) (by omega) (by omega)
      have hv := word_minus f g k
      generalize hV : word f k &&& (18446744073709551615 - word g k) = v at *
      have HV := Lib.hid hv
      clear hV hv
      generalize word f k = x at *
      generalize word g k = y at *
      go_wp2
      go_roundw
      case rel => exact ⟨k + 1, by omega, by go_num, c1.mixStep v HV.out, c3.setCell _ _ (by simp; omega), hb1.setCell (p := ⟨w.heap.size, k, none⟩) (Nat.le_refl _) _⟩
      case measure => simp [intOf]; omega
    · go_wp2_with (first
        | ((with_reducible show wpList _ _ _ (⟨some 19, _, _, _, _, _⟩ :: _) _ _); refine wpList_load_mid rfl 41 _ rfl _ _ rfl _ _ c1.range Try.underlying41 rfl (info26 _) ?_)
        | ((with_reducible show wpList _ _ _ (⟨none, _, _, _, _, _⟩ :: _) _ _); refine wpList_store_mid rfl 41 _ _ rfl _ _ (cellsL (mixF (minusF f g) f k)).toArray rfl rfl (c3.there _) (info26' _) (cellsL_all _) ?_)
        | ((with_reducible show bodyPost _ _ _ _ _ _); exact bodyPost_ret (results_box rfl _ _ _ _ rfl ((c3.setCells _).of_eq (by rw [show k = 16 by omega]; exact cells_mix_16 _ _))) rfl ⟨rfl, below_setCells hb1 c3 _ (by omega)⟩))

/-! ### Below -/
theorem belowF_congr {a b : Int} (h : ∀ k : Nat, k < 1024 → ((k : Int) < a ↔ (k : Int) < b)) : cellsL (belowF a) = cellsL (belowF b) :=
  cellsL_ext fun i hi => word_ext fun j hj => by
    have := h (64 * i + j) (by omega)
    simp only [belowF, this]
theorem zero_entry (w : World) : ∃ W, (w.alloc (.cells #[.int .u64 0, .int .u64 0, .int .u64 0, .int .u64 0, .int .u64 0, .int .u64 0, .int .u64 0, .int .u64 0, .int .u64 0, .int .u64 0, .int .u64 0, .int .u64 0, .int .u64 0, .int .u64 0, .int .u64 0, .int .u64 0] 41)).alloc (.cells #[.int .u64 0, .int .u64 0, .int .u64 0, .int .u64 0, .int .u64 0, .int .u64 0, .int .u64 0, .int .u64 0, .int .u64 0, .int .u64 0, .int .u64 0, .int .u64 0, .int .u64 0, .int .u64 0, .int .u64 0, .int .u64 0] 41) = W ∧
    Box W w.heap.size noneF ∧ Box W (w.heap.size + 1) noneF ∧ Below w.heap.size w W := by
  obtain ⟨W, hW, h⟩ := entry1 w noneF
  rw [cellsL_none] at hW
  exact ⟨W, hW, h⟩
/-- All below word k, nothing from it on. -/
def fillF (k : Nat) : Nat → Bool := mixF (fun _ => true) noneF k
theorem word_true (i : Nat) : word (fun _ => true) i = 18446744073709551615 :=
  (eq_word (by omega) (fun j hj => by rw [show (18446744073709551615 : Nat) = 2 ^ 64 - (0 + 1) from rfl, Nat.testBit_two_pow_sub_succ (by omega)]; simp [hj])).symm
theorem fill_0 : cellsL (fillF 0) = cellsL noneF := cells_mix_0 _ _
theorem fill_all : cellsL (fillF 16) = cellsL (belowF 1024) := cellsL_ext fun i hi => word_ext fun j hj => by
  have h1 : 64 * i + j < 64 * 16 := by omega
  have h2 : ((64 * i + j : Nat) : Int) < 1024 := by omega
  simp only [fillF, mixF, belowF, h1, h2, if_true, decide_true]
theorem Box.fillStep {w : World} {b k : Nat} (h : Box w b (fillF k)) : Box (w.setCell ⟨b, k, none⟩ (.int .u64 18446744073709551615)) b (fillF (k + 1)) :=
  Box.mixStep h 18446744073709551615 (word_true k).symm
theorem Box.fillEnd {w : World} {b n : Nat} (h : Box w b (fillF (n / 64))) (hn : n < 1024) : Box (w.setCell ⟨b, n / 64, none⟩ (.int .u64 ((2 ^ (n % 64) - 1 : Nat) : Int))) b (belowF n) :=
  h.set (n / 64) (2 ^ (n % 64) - 1) (by
    rw [word_below, if_neg (by omega)]
    by_cases hh : n ≤ 64 * (n / 64)
    · rw [if_pos hh, show n % 64 = 0 by omega]
    · rw [if_neg hh, show n % 64 = n - 64 * (n / 64) by omega]) fun j hj hne => by
    by_cases hlt : j < n / 64
    · rw [fillF, word_mix_lt _ _ _ _ hlt, word_true, word_below, if_pos (by omega)]
    · rw [fillF, word_mix_ge _ _ _ _ (by omega), word_below, if_neg (by omega), if_pos (by omega)]
      exact (eq_word (by omega) (by simp [noneF])).symm

end Go.Proofs.Ytapeklpnjckfkaa
