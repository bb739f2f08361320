/- Contracts of the document's own answers (package cadencyref01), of Ceil, and of Sum. -/
import Derived.Test.YtilhgpjaadeplaaBase
namespace Go.Proofs.Ytilhgpjaadeplaa
open Go.RowKit
set_option linter.unusedVariables false

set_option maxHeartbeats 400000 in
theorem refAdd_any (a b : Int) (ha : 0 ≤ a) (ha1 : a ≤ 18446744073709551615) (hb : 0 ≤ b) (hb1 : b ≤ 18446744073709551615) (w : World) :
    Calls Try.prog 26 #[.int .u64 a, .int .u64 b] w fun e w' => e = .returned (.agg #[.int .u64 (addN a b), .bool (addB a b)]) ∧ Below w.heap.size w w' := by
  by_cases h : a + b ≤ 18446744073709551615
  · have e1 : addN a b = a + b := by simp [addN, h]
    have e2 : addB a b = true := by simp [addB, h]
    have h' : ¬ 18446744073709551615 - b < a := by omega
    rw [e1, e2]
    clear e1 e2
    go_enter Try.func26, Try.ntmps26
    go_wp2
    go_returns
    exact ⟨rfl, by go_grown⟩
  · have e1 : addN a b = 0 := by simp [addN, h]
    have e2 : addB a b = false := by simp [addB, h]
    have h' : 18446744073709551615 - b < a := by omega
    rw [e1, e2]
    clear e1 e2
    go_enter Try.func26, Try.ntmps26
    go_wp2
    go_returns
    exact ⟨rfl, by go_grown⟩

theorem mul_over (a b : Int) (hb : 0 < b) (h : 18446744073709551615 / b < a) : ¬ a * b ≤ 18446744073709551615 := by
  intro hle
  have := (Int.le_ediv_iff_mul_le hb).2 hle
  omega
theorem mul_under (a b : Int) (hb : 0 < b) (h : ¬ 18446744073709551615 / b < a) : a * b ≤ 18446744073709551615 :=
  (Int.le_ediv_iff_mul_le hb).1 (by omega)

set_option maxHeartbeats 400000 in
theorem refMul_any (a b : Int) (ha : 0 ≤ a) (ha1 : a ≤ 18446744073709551615) (hb : 0 ≤ b) (hb1 : b ≤ 18446744073709551615) (w : World) :
    Calls Try.prog 27 #[.int .u64 a, .int .u64 b] w fun e w' => e = .returned (.agg #[.int .u64 (mulN a b), .bool (mulB a b)]) ∧ Below w.heap.size w w' := by
  by_cases hb0 : 0 < b
  · by_cases h : 18446744073709551615 / b < a
    · have e1 : mulN a b = 0 := by simp [mulN, mul_over a b hb0 h]
      have e2 : mulB a b = false := by simp [mulB, mul_over a b hb0 h]
      rw [e1, e2]
      clear e1 e2
      go_enter Try.func27, Try.ntmps27
      go_wp2
      go_returns
      exact ⟨rfl, by go_grown⟩
    · have hm := mul_under a b hb0 h
      have e1 : mulN a b = a * b := by simp [mulN, hm]
      have e2 : mulB a b = true := by simp [mulB, hm]
      have hp := mul_nonneg' a b ha hb
      rw [e1, e2]
      clear e1 e2
      go_enter Try.func27, Try.ntmps27
      go_wp2
      go_returns
      exact ⟨rfl, by go_grown⟩
  · obtain rfl : b = 0 := by omega
    have e1 : mulN a 0 = 0 := by simp [mulN]
    have e2 : mulB a 0 = true := by simp [mulB]
    rw [e1, e2]
    clear e1 e2
    go_enter Try.func27, Try.ntmps27
    go_wp2
    go_returns
    exact ⟨by simp, by go_grown⟩

theorem quo_le (a b : Int) (ha : 0 ≤ a) : 0 ≤ b → 0 ≤ a / b ∧ a / b ≤ a := fun hb => ⟨Int.ediv_nonneg ha hb, Int.ediv_le_self _ ha⟩
theorem quo_lt (a b : Int) (ha : 0 ≤ a) (ha1 : a ≤ 18446744073709551615) (hb : 0 < b) (h : a % b ≠ 0) : a / b + 1 ≤ 18446744073709551615 := by
  have h1 : b ≠ 1 := by intro e; subst e; omega
  have h0 : 0 ≤ a / b := Int.ediv_nonneg ha (by omega)
  have h2 : a / b * 2 ≤ a / b * b := Int.mul_le_mul_of_nonneg_left (by omega) h0
  have h3 := Int.ediv_mul_le a (b := b) (by omega)
  omega

set_option maxHeartbeats 400000 in
theorem ceil_any (a b : Int) (ha : 0 ≤ a) (ha1 : a ≤ 18446744073709551615) (hb : 0 ≤ b) (hb1 : b ≤ 18446744073709551615) (w : World) :
    Calls Try.prog 20 #[.int .u64 a, .int .u64 b] w fun e w' => e = .returned (.tuple #[.int .u64 (ceilN a b), .bool (ceilB b)]) ∧ w = w' := by
  by_cases h0 : b = 0
  · subst h0
    have e1 : ceilN a 0 = 0 := by simp [ceilN]
    have e2 : ceilB 0 = false := by simp [ceilB]
    rw [e1, e2]
    clear e1 e2
    go_enter Try.func20, Try.ntmps20
    go_wp2
    go_ret2
    exact ⟨rfl, rfl⟩
  · have hp : 0 < b := by omega
    have hz : (b == 0) = false := by simp; omega
    have hq := quo_le a b ha hb
    have e2 : ceilB b = true := by simp [ceilB, h0]
    have hm := Int.emod_nonneg a h0
    by_cases hr : a % b = 0
    · have e1 : ceilN a b = a / b := by simp [ceilN, h0, hr]
      have hrb : (a % b == 0) = true := by simp [hr]
      rw [e1, e2]
      clear e1 e2 hr h0
      go_enter Try.func20, Try.ntmps20
      go_wp2
      go_ret2
      exact ⟨rfl, rfl⟩
    · have e1 : ceilN a b = a / b + 1 := by simp [ceilN, h0, hr]
      have hrb : (a % b == 0) = false := by simp; exact hr
      have hl := quo_lt a b ha ha1 hp hr
      rw [e1, e2]
      clear e1 e2 hr h0
      go_enter Try.func20, Try.ntmps20
      go_wp2
      go_ret2
      exact ⟨rfl, rfl⟩

set_option maxHeartbeats 400000 in
theorem refCeil_any (a b : Int) (ha : 0 ≤ a) (ha1 : a ≤ 18446744073709551615) (hb : 0 ≤ b) (hb1 : b ≤ 18446744073709551615) (w : World) :
    Calls Try.prog 28 #[.int .u64 a, .int .u64 b] w fun e w' => e = .returned (.agg #[.int .u64 (ceilN a b), .bool (ceilB b)]) ∧ Below w.heap.size w w' := by
  by_cases h0 : b = 0
  · subst h0
    have e1 : ceilN a 0 = 0 := by simp [ceilN]
    have e2 : ceilB 0 = false := by simp [ceilB]
    rw [e1, e2]
    clear e1 e2
    go_enter Try.func28, Try.ntmps28
    go_wp2
    go_returns
    exact ⟨rfl, by go_grown⟩
  · have hp : 0 < b := by omega
    have hz : (b == 0) = false := by simp; omega
    have hq := quo_le a b ha hb
    have e2 : ceilB b = true := by simp [ceilB, h0]
    have hm := Int.emod_nonneg a h0
    by_cases hr : a % b = 0
    · have e1 : ceilN a b = a / b := by simp [ceilN, h0, hr]
      have hrb : ¬ 0 < a % b := by omega
      rw [e1, e2]
      clear e1 e2 hr h0
      go_enter Try.func28, Try.ntmps28
      go_wp2
      go_returns
      exact ⟨rfl, by go_grown⟩
    · have e1 : ceilN a b = a / b + 1 := by simp [ceilN, h0, hr]
      have hrb : 0 < a % b := by omega
      have hl := quo_lt a b ha ha1 hp hr
      rw [e1, e2]
      clear e1 e2 hr h0
      go_enter Try.func28, Try.ntmps28
      go_wp2
      go_returns
      exact ⟨rfl, by go_grown⟩

set_option maxHeartbeats 400000 in
theorem end_any (n : Int) (k : Bool) (w : World) :
    Calls Try.prog 29 #[.agg #[.int .u64 n, .bool k]] w fun e w' => e = .returned (.int .u64 (endN k n)) ∧ Below w.heap.size w w' := by
  cases k
  all_goals
    simp only [endN]
    go_enter Try.func29, Try.ntmps29
    go_wp2
    go_ret
    exact ⟨rfl, by go_grown⟩

/-! ### Sum -/
def satAdd (s n : Int) : Int := if s + n ≤ 18446744073709551615 then s + n else 18446744073709551615
def satSum (s : Int) (l : List Int) : Int := l.foldl satAdd s
theorem satSum_top : ∀ (l : List Int), (∀ n ∈ l, 0 ≤ n) → satSum 18446744073709551615 l = 18446744073709551615
  | [], _ => rfl
  | n :: l, h => by
    have h0 := h n (by simp)
    have : satAdd 18446744073709551615 n = 18446744073709551615 := by unfold satAdd; split <;> omega
    rw [satSum, List.foldl_cons, this]
    exact satSum_top l fun m hm => h m (by simp [hm])
theorem satSum_bd : ∀ (l : List Int) (s : Int), 0 ≤ s → s ≤ 18446744073709551615 → (∀ n ∈ l, 0 ≤ n) → 0 ≤ satSum s l ∧ satSum s l ≤ 18446744073709551615
  | [], s, h0, h1, _ => ⟨h0, h1⟩
  | n :: l, s, h0, h1, h => by
    have h2 := h n (by simp)
    rw [satSum, List.foldl_cons]
    exact satSum_bd l _ (by unfold satAdd; split <;> omega) (by unfold satAdd; split <;> omega) fun m hm => h m (by simp [hm])
theorem take_one (zs : List Int) (k : Nat) (h : k < zs.length) : zs.take (k + 1) = zs.take k ++ [zs.getD k 0] := by
  rw [List.take_succ_eq_append_getElem h]; simp [List.getD_eq_getElem?_getD, h]
theorem satSum_snoc (s : Int) (zs : List Int) (k : Nat) (h : k < zs.length) : satSum s (zs.take (k + 1)) = satAdd (satSum s (zs.take k)) (zs.getD k 0) := by
  rw [take_one zs k h, satSum, List.foldl_append]; rfl
theorem satSum_over (s : Int) (zs : List Int) (k : Nat) (hn : ∀ n ∈ zs, 0 ≤ n) (h : k < zs.length) (ho : ¬ satSum s (zs.take k) + zs.getD k 0 ≤ 18446744073709551615) : satSum s zs = 18446744073709551615 := by
  have e : zs = zs.take (k + 1) ++ zs.drop (k + 1) := (List.take_append_drop _ _).symm
  have : satSum s zs = satSum (satSum s (zs.take (k + 1))) (zs.drop (k + 1)) := by
    conv => lhs; rw [e]
    rw [satSum, List.foldl_append]; rfl
  rw [this, satSum_snoc s zs k h, satAdd, if_neg ho]
  exact satSum_top _ fun n hm => hn n (List.mem_of_mem_drop hm)
theorem ret_u64 {a b : Int} (h : a = b) : Ending.returned (.int .u64 a) = .returned (.int .u64 b) := by rw [h]

set_option maxHeartbeats 800000 in
theorem sum_any (first : Int) (x : Addr) (len cap : Nat) (zs : List Int) (h0 : 0 ≤ first) (h1 : first ≤ 18446744073709551615) (hlen : zs.length = len) (hcap : len ≤ cap) (hmax : cap ≤ maxLen)
    (w : World) (hc : ∀ i, i < len → w.cell? (x.add i) = some (.int .u64 (zs.getD i 0))) (hz : ∀ n ∈ zs, 0 ≤ n ∧ n ≤ 18446744073709551615) :
    Calls Try.prog 18 #[.int .u64 first, .slice (some x) len cap] w fun e w' => e = .returned (.int .u64 (satSum first zs)) ∧ w = w' := by
  unfold maxLen at hmax
  have HC := Lib.hid hc
  have HL := Lib.hid hlen
  have HZ := Lib.hid hz
  clear hc hlen hz
  go_enter Try.func18, Try.ntmps18
  go_wp2
  go_loop [5, 13] (fun s i => ∃ k : Nat, k ≤ len ∧ i = .int .i64 k ∧ s = .int .u64 (satSum first (zs.take k))) (fun _ i => len - (intOf i).toNat)
  case atStart => exact ⟨0, Nat.zero_le _, rfl, rfl⟩
  case round =>
    obtain ⟨k, hk, rfl, rfl⟩ := hrel
    have hnn : ∀ n ∈ zs.take k, 0 ≤ n := fun n hn => (HZ.out n (List.mem_of_mem_take hn)).1
    have hb := satSum_bd (zs.take k) first h0 h1 hnn
    clear hnn
    by_cases hlt : k < len
    · have hcell := HC.out k hlt
      have hkz : k < zs.length := by rw [HL.out]; exact hlt
      have hzb : 0 ≤ zs.getD k 0 ∧ zs.getD k 0 ≤ 18446744073709551615 := HZ.out _ (by rw [List.getD_eq_getElem?_getD, List.getElem?_eq_getElem hkz]; exact List.getElem_mem _)
      have HS := Lib.hid (satSum_snoc first zs k hkz)
      have HO := Lib.hid (satSum_over first zs k (fun n hn => (HZ.out n hn).1) hkz)
      have hadd := add_any (satSum first (zs.take k)) (zs.getD k 0) hb.1 hb.2 hzb.1 hzb.2 w
      clear hkz
      generalize zs.getD k 0 = z at *
      generalize satSum first (zs.take k) = s at *
      by_cases ho : s + z ≤ 18446744073709551615
      · have e1 : addN s z = s + z := by simp [addN, ho]
        have e2 : addB s z = true := by simp [addB, ho]
        rw [e1, e2] at hadd
        have HA := Lib.hid hadd
        clear hadd e1 e2
        go_wp2_with (go_at_call 22; refine HA.out.mono ?_; rintro e w' ⟨rfl, rfl⟩)
        go_round
        case rel => exact ⟨k + 1, by omega, by go_num, by rw [HS.out, satAdd, if_pos ho]⟩
        case measure => simp [intOf]; omega
      · have e1 : addN s z = 0 := by simp [addN, ho]
        have e2 : addB s z = false := by simp [addB, ho]
        rw [e1, e2] at hadd
        have HA := Lib.hid hadd
        clear hadd e1 e2
        go_wp2_with (go_at_call 22; refine HA.out.mono ?_; rintro e w' ⟨rfl, rfl⟩)
        go_ret
        exact ⟨ret_u64 (HO.out ho).symm, rfl⟩
    · go_wp2
      go_ret
      exact ⟨ret_u64 (by rw [List.take_of_length_le (by rw [HL.out]; omega)]), rfl⟩
end Go.Proofs.Ytilhgpjaadeplaa
