/- Texts about the program, one after the other: NRefs, NSums, DPure, DOwn, DGrt, DLaw, DRef, DNee, DMay, MOps. -/
import Derived.Test.YtnhddnldebdmbaaDoorG4
import Derived.Maps.AppendAt
import Derived.Laws.AppendOwnNone
import Derived.Laws.OwnMore
import Derived.Deep.RegionLaw
import Derived.Deep.CutRange
import Derived.Deep.CutBlock
import Derived.Test.YtnhddnldebdmbaaDoorG1
import Derived.Outline
import Derived.Laws.Bits128
import Derived.Deep.RegionWith
/- Contracts of the document's own answers (package cadencyref01), of Ceil, and of Sum. -/
namespace Go.Proofs.YtnhddnldebdmbaaDoor
open Go.RowKit
set_option linter.unusedVariables false

set_option maxHeartbeats 400000 in
theorem refAdd_any (a b : Int) (ha : 0 ≤ a) (ha1 : a ≤ 18446744073709551615) (hb : 0 ≤ b) (hb1 : b ≤ 18446744073709551615) (w : World) :
    Calls Tryd.prog 66 #[.int .u64 a, .int .u64 b] w fun e w' => e = .returned (.agg #[.int .u64 (addN a b), .bool (addB a b)]) ∧ Below w.heap.size w w' := by
  by_cases h : a + b ≤ 18446744073709551615
  · have e1 : addN a b = a + b := by simp [addN, h]
    have e2 : addB a b = true := by simp [addB, h]
    have h' : ¬ 18446744073709551615 - b < a := by omega
    rw [e1, e2]
    clear e1 e2
    go_enter Tryd.func66, Tryd.ntmps66
    go_wp2
    go_returns
    exact ⟨rfl, by go_grown⟩
  · have e1 : addN a b = 0 := by simp [addN, h]
    have e2 : addB a b = false := by simp [addB, h]
    have h' : 18446744073709551615 - b < a := by omega
    rw [e1, e2]
    clear e1 e2
    go_enter Tryd.func66, Tryd.ntmps66
    go_wp2
    go_returns
    exact ⟨rfl, by go_grown⟩

theorem mul_over (a b : Int) (hb : 0 < b) (h : 18446744073709551615 / b < a) : ¬ a * b ≤ 18446744073709551615 := by
  intro hle
  have := (Int.le_ediv_iff_mul_le hb).2 hle
  omega
theorem mul_under (a b : Int) (hb : 0 < b) (h : ¬ 18446744073709551615 / b < a) : a * b ≤ 18446744073709551615 :=
  (Int.le_ediv_iff_mul_le hb).1 (by omega)

set_option maxHeartbeats 400000 in
theorem refMul_any (a b : Int) (ha : 0 ≤ a) (ha1 : a ≤ 18446744073709551615) (hb : 0 ≤ b) (hb1 : b ≤ 18446744073709551615) (w : World) :
    Calls Tryd.prog 68 #[.int .u64 a, .int .u64 b] w fun e w' => e = .returned (.agg #[.int .u64 (mulN a b), .bool (mulB a b)]) ∧ Below w.heap.size w w' := by
  by_cases hb0 : 0 < b
  · by_cases h : 18446744073709551615 / b < a
    · have e1 : mulN a b = 0 := by simp [mulN, mul_over a b hb0 h]
      have e2 : mulB a b = false := by simp [mulB, mul_over a b hb0 h]
      rw [e1, e2]
      clear e1 e2
      go_enter Tryd.func68, Tryd.ntmps68
      go_wp2
      go_returns
      exact ⟨rfl, by go_grown⟩
    · have hm := mul_under a b hb0 h
      have e1 : mulN a b = a * b := by simp [mulN, hm]
      have e2 : mulB a b = true := by simp [mulB, hm]
      have hp := mul_nonneg' a b ha hb
      rw [e1, e2]
      clear e1 e2
      go_enter Tryd.func68, Tryd.ntmps68
      go_wp2
      go_returns
      exact ⟨rfl, by go_grown⟩
  · obtain rfl : b = 0 := by omega
    have e1 : mulN a 0 = 0 := by simp [mulN]
    have e2 : mulB a 0 = true := by simp [mulB]
    rw [e1, e2]
    clear e1 e2
    go_enter Tryd.func68, Tryd.ntmps68
    go_wp2
    go_returns
    exact ⟨by simp, by go_grown⟩

theorem quo_le (a b : Int) (ha : 0 ≤ a) : 0 ≤ b → 0 ≤ a / b ∧ a / b ≤ a := fun hb => ⟨Int.ediv_nonneg ha hb, Int.ediv_le_self _ ha⟩
theorem quo_lt (a b : Int) (ha : 0 ≤ a) (ha1 : a ≤ 18446744073709551615) (hb : 0 < b) (h : a % b ≠ 0) : a / b + 1 ≤ 18446744073709551615 := by
  have h1 : b ≠ 1 := by intro e; subst e; omega
  have h0 : 0 ≤ a / b := Int.ediv_nonneg ha (by omega)
  have h2 : a / b * 2 ≤ a / b * b := Int.mul_le_mul_of_nonneg_left (by omega) h0
  have h3 := Int.ediv_mul_le a (b := b) (by omega)
  omega

set_option maxHeartbeats 400000 in
theorem ceil_any (a b : Int) (ha : 0 ≤ a) (ha1 : a ≤ 18446744073709551615) (hb : 0 ≤ b) (hb1 : b ≤ 18446744073709551615) (w : World) :
    Calls Tryd.prog 64 #[.int .u64 a, .int .u64 b] w fun e w' => e = .returned (.tuple #[.int .u64 (ceilN a b), .bool (ceilB b)]) ∧ w = w' := by
  by_cases h0 : b = 0
  · subst h0
    have e1 : ceilN a 0 = 0 := by simp [ceilN]
    have e2 : ceilB 0 = false := by simp [ceilB]
    rw [e1, e2]
    clear e1 e2
    go_enter Tryd.func64, Tryd.ntmps64
    go_wp2
    go_ret2
    exact ⟨rfl, rfl⟩
  · have hp : 0 < b := by omega
    have hz : (b == 0) = false := by simp; omega
    have hq := quo_le a b ha hb
    have e2 : ceilB b = true := by simp [ceilB, h0]
    have hm := Int.emod_nonneg a h0
    by_cases hr : a % b = 0
    · have e1 : ceilN a b = a / b := by simp [ceilN, h0, hr]
      have hrb : (a % b == 0) = true := by simp [hr]
      rw [e1, e2]
      clear e1 e2 hr h0
      go_enter Tryd.func64, Tryd.ntmps64
      go_wp2
      go_ret2
      exact ⟨rfl, rfl⟩
    · have e1 : ceilN a b = a / b + 1 := by simp [ceilN, h0, hr]
      have hrb : (a % b == 0) = false := by simp; exact hr
      have hl := quo_lt a b ha ha1 hp hr
      rw [e1, e2]
      clear e1 e2 hr h0
      go_enter Tryd.func64, Tryd.ntmps64
      go_wp2
      go_ret2
      exact ⟨rfl, rfl⟩

set_option maxHeartbeats 400000 in
theorem refCeil_any (a b : Int) (ha : 0 ≤ a) (ha1 : a ≤ 18446744073709551615) (hb : 0 ≤ b) (hb1 : b ≤ 18446744073709551615) (w : World) :
    Calls Tryd.prog 67 #[.int .u64 a, .int .u64 b] w fun e w' => e = .returned (.agg #[.int .u64 (ceilN a b), .bool (ceilB b)]) ∧ Below w.heap.size w w' := by
  by_cases h0 : b = 0
  · subst h0
    have e1 : ceilN a 0 = 0 := by simp [ceilN]
    have e2 : ceilB 0 = false := by simp [ceilB]
    rw [e1, e2]
    clear e1 e2
    go_enter Tryd.func67, Tryd.ntmps67
    go_wp2
    go_returns
    exact ⟨rfl, by go_grown⟩
  · have hp : 0 < b := by omega
    have hz : (b == 0) = false := by simp; omega
    have hq := quo_le a b ha hb
    have e2 : ceilB b = true := by simp [ceilB, h0]
    have hm := Int.emod_nonneg a h0
    by_cases hr : a % b = 0
    · have e1 : ceilN a b = a / b := by simp [ceilN, h0, hr]
      have hrb : ¬ 0 < a % b := by omega
      rw [e1, e2]
      clear e1 e2 hr h0
      go_enter Tryd.func67, Tryd.ntmps67
      go_wp2
      go_returns
      exact ⟨rfl, by go_grown⟩
    · have e1 : ceilN a b = a / b + 1 := by simp [ceilN, h0, hr]
      have hrb : 0 < a % b := by omega
      have hl := quo_lt a b ha ha1 hp hr
      rw [e1, e2]
      clear e1 e2 hr h0
      go_enter Tryd.func67, Tryd.ntmps67
      go_wp2
      go_returns
      exact ⟨rfl, by go_grown⟩

set_option maxHeartbeats 400000 in
theorem end_any (n : Int) (k : Bool) (w : World) :
    Calls Tryd.prog 65 #[.agg #[.int .u64 n, .bool k]] w fun e w' => e = .returned (.int .u64 (endN k n)) ∧ Below w.heap.size w w' := by
  cases k
  all_goals
    simp only [endN]
    go_enter Tryd.func65, Tryd.ntmps65
    go_wp2
    go_ret
    exact ⟨rfl, by go_grown⟩

/-! ### Sum -/
def satAdd (s n : Int) : Int := if s + n ≤ 18446744073709551615 then s + n else 18446744073709551615
def satSum (s : Int) (l : List Int) : Int := l.foldl satAdd s
theorem satSum_top : ∀ (l : List Int), (∀ n ∈ l, 0 ≤ n) → satSum 18446744073709551615 l = 18446744073709551615
  | [], _ => rfl
  | n :: l, h => by
    have h0 := h n (by simp)
    have : satAdd 18446744073709551615 n = 18446744073709551615 := by unfold satAdd; split <;> omega
    rw [satSum, List.foldl_cons, this]
    exact satSum_top l fun m hm => h m (by simp [hm])
theorem satSum_bd : ∀ (l : List Int) (s : Int), 0 ≤ s → s ≤ 18446744073709551615 → (∀ n ∈ l, 0 ≤ n) → 0 ≤ satSum s l ∧ satSum s l ≤ 18446744073709551615
  | [], s, h0, h1, _ => ⟨h0, h1⟩
  | n :: l, s, h0, h1, h => by
    have h2 := h n (by simp)
    rw [satSum, List.foldl_cons]
    exact satSum_bd l _ (by unfold satAdd; split <;> omega) (by unfold satAdd; split <;> omega) fun m hm => h m (by simp [hm])
theorem take_one (zs : List Int) (k : Nat) (h : k < zs.length) : zs.take (k + 1) = zs.take k ++ [zs.getD k 0] := by
  rw [List.take_succ_eq_append_getElem h]; simp [List.getD_eq_getElem?_getD, h]
theorem satSum_snoc (s : Int) (zs : List Int) (k : Nat) (h : k < zs.length) : satSum s (zs.take (k + 1)) = satAdd (satSum s (zs.take k)) (zs.getD k 0) := by
  rw [take_one zs k h, satSum, List.foldl_append]; rfl
theorem satSum_over (s : Int) (zs : List Int) (k : Nat) (hn : ∀ n ∈ zs, 0 ≤ n) (h : k < zs.length) (ho : ¬ satSum s (zs.take k) + zs.getD k 0 ≤ 18446744073709551615) : satSum s zs = 18446744073709551615 := by
  have e : zs = zs.take (k + 1) ++ zs.drop (k + 1) := (List.take_append_drop _ _).symm
  have : satSum s zs = satSum (satSum s (zs.take (k + 1))) (zs.drop (k + 1)) := by
    conv => lhs; rw [e]
    rw [satSum, List.foldl_append]; rfl
  rw [this, satSum_snoc s zs k h, satAdd, if_neg ho]
  exact satSum_top _ fun n hm => hn n (List.mem_of_mem_drop hm)
theorem ret_u64 {a b : Int} (h : a = b) : Ending.returned (.int .u64 a) = .returned (.int .u64 b) := by rw [h]

set_option maxHeartbeats 800000 in
theorem sum_any (first : Int) (x : Addr) (len cap : Nat) (zs : List Int) (h0 : 0 ≤ first) (h1 : first ≤ 18446744073709551615) (hlen : zs.length = len) (hcap : len ≤ cap) (hmax : cap ≤ maxLen)
    (w : World) (hc : ∀ i, i < len → w.cell? (x.add i) = some (.int .u64 (zs.getD i 0))) (hz : ∀ n ∈ zs, 0 ≤ n ∧ n ≤ 18446744073709551615) :
    Calls Tryd.prog 29 #[.int .u64 first, .slice (some x) len cap] w fun e w' => e = .returned (.int .u64 (satSum first zs)) ∧ w = w' := by
  unfold maxLen at hmax
  have HC := Lib.hid hc
  have HL := Lib.hid hlen
  have HZ := Lib.hid hz
  clear hc hlen hz
  go_enter Tryd.func29, Tryd.ntmps29
  go_wp2
  go_loop [5, 13] (fun s i => ∃ k : Nat, k ≤ len ∧ i = .int .i64 k ∧ s = .int .u64 (satSum first (zs.take k))) (fun _ i => len - (intOf i).toNat)
  case atStart => exact ⟨0, Nat.zero_le _, rfl, rfl⟩
  case round =>
    obtain ⟨k, hk, rfl, rfl⟩ := hrel
    have hnn : ∀ n ∈ zs.take k, 0 ≤ n := fun n hn => (HZ.out n (List.mem_of_mem_take hn)).1
    have hb := satSum_bd (zs.take k) first h0 h1 hnn
    clear hnn
    by_cases hlt : k < len
    · have hcell := HC.out k hlt
      have hkz : k < zs.length := by rw [HL.out]; exact hlt
      have hzb : 0 ≤ zs.getD k 0 ∧ zs.getD k 0 ≤ 18446744073709551615 := HZ.out _ (by rw [List.getD_eq_getElem?_getD, List.getElem?_eq_getElem hkz]; exact List.getElem_mem _)
      have HS := Lib.hid (satSum_snoc first zs k hkz)
      have HO := Lib.hid (satSum_over first zs k (fun n hn => (HZ.out n hn).1) hkz)
      have hadd := add_any (satSum first (zs.take k)) (zs.getD k 0) hb.1 hb.2 hzb.1 hzb.2 w
      clear hkz
      generalize zs.getD k 0 = z at *
      generalize satSum first (zs.take k) = s at *
      by_cases ho : s + z ≤ 18446744073709551615
      · have e1 : addN s z = s + z := by simp [addN, ho]
        have e2 : addB s z = true := by simp [addB, ho]
        rw [e1, e2] at hadd
        have HA := Lib.hid hadd
        clear hadd e1 e2
        go_wp2_with (go_at_call 40; refine HA.out.mono ?_; rintro e w' ⟨rfl, rfl⟩)
        go_round
        case rel => exact ⟨k + 1, by omega, by go_num, by rw [HS.out, satAdd, if_pos ho]⟩
        case measure => simp [intOf]; omega
      · have e1 : addN s z = 0 := by simp [addN, ho]
        have e2 : addB s z = false := by simp [addB, ho]
        rw [e1, e2] at hadd
        have HA := Lib.hid hadd
        clear hadd e1 e2
        go_wp2_with (go_at_call 40; refine HA.out.mono ?_; rintro e w' ⟨rfl, rfl⟩)
        go_ret
        exact ⟨ret_u64 (HO.out ho).symm, rfl⟩
    · go_wp2
      go_ret
      exact ⟨ret_u64 (by rw [List.take_of_length_le (by rw [HL.out]; omega)]), rfl⟩
end Go.Proofs.YtnhddnldebdmbaaDoor
/- Sums of many: plain facts, and contracts of the document's own Sum, and of Sum at a row of the call's own. -/
namespace Go.Proofs.YtnhddnldebdmbaaDoor
open Go.RowKit
set_option linter.unusedVariables false

/-! ### Plain facts -/
def sumI : List Int → Int
  | [] => 0
  | n :: l => n + sumI l
theorem sumI_append : ∀ (l m : List Int), sumI (l ++ m) = sumI l + sumI m
  | [], m => by simp [sumI]
  | n :: l, m => by simp only [List.cons_append, sumI, sumI_append l m]; omega
theorem sumI_reverse : ∀ l : List Int, sumI l.reverse = sumI l
  | [] => rfl
  | n :: l => by rw [List.reverse_cons, sumI_append, sumI_reverse l]; simp only [sumI]; omega
theorem sumI_nonneg : ∀ l : List Int, (∀ n ∈ l, 0 ≤ n) → 0 ≤ sumI l
  | [], _ => by simp [sumI]
  | n :: l, h => by
    have h0 := h n (by simp)
    have h1 := sumI_nonneg l fun m hm => h m (by simp [hm])
    simp only [sumI]; omega
theorem satSum_eq : ∀ (l : List Int) (s : Int), s ≤ 18446744073709551615 → (∀ n ∈ l, 0 ≤ n) → satSum s l = if s + sumI l ≤ 18446744073709551615 then s + sumI l else 18446744073709551615
  | [], s, hs, _ => by simp [satSum, sumI, hs]
  | n :: l, s, hs, h => by
    have h0 := h n (by simp)
    have hl : ∀ m ∈ l, 0 ≤ m := fun m hm => h m (by simp [hm])
    have h1 := sumI_nonneg l hl
    rw [satSum, List.foldl_cons]
    show satSum (satAdd s n) l = _
    by_cases hle : s + n ≤ 18446744073709551615
    · rw [show satAdd s n = s + n from if_pos hle, satSum_eq l _ hle hl]
      rw [show sumI (n :: l) = n + sumI l from rfl, Int.add_assoc]
    · rw [show satAdd s n = 18446744073709551615 from if_neg hle, satSum_top l hl, if_neg (by simp only [sumI]; omega)]
theorem satSum_reverse (l : List Int) (h : ∀ n ∈ l, 0 ≤ n) : satSum 0 l.reverse = satSum 0 l := by
  rw [satSum_eq _ 0 (by omega) (fun n hn => h n (List.mem_reverse.1 hn)), satSum_eq _ 0 (by omega) h, sumI_reverse]
theorem satSum_head (n : Int) (l : List Int) (h1 : n ≤ 18446744073709551615) : satSum 0 (n :: l) = satSum n l := by
  rw [satSum, List.foldl_cons, show satAdd 0 n = n from by simp [satAdd, h1]]; rfl
theorem endN_sat (s z : Int) : endN (addB s z) (addN s z) = satAdd s z := by
  simp only [satAdd, endN, addB, addN]
  by_cases hle : s + z ≤ 18446744073709551615 <;> simp [hle]

/-! ### A slice that reads as a row of numbers; nil too -/
/-- Below the first new block all is as it was. -/
def KeptW (w w' : World) : Prop := Below w.heap.size w w'
def Nums (w : World) (v : Value) (zs : List Int) : Prop :=
  (v = .slice none 0 0 ∧ zs = []) ∨ ∃ x cap, v = .slice (some x) zs.length cap ∧ zs.length ≤ cap ∧ cap ≤ maxLen ∧ ∀ i, i < zs.length → w.cell? (x.add i) = some (.int .u64 (zs.getD i 0))

theorem Nums.later {w w1 : World} {v : Value} {zs : List Int} (h : Nums w v zs) (hb : Below w.heap.size w w1) : Nums w1 v zs := by
  rcases h with h | ⟨x, cap, hv, hle, hmax, hc⟩
  · exact .inl h
  · exact .inr ⟨x, cap, hv, hle, hmax, fun i hi => by rw [hb.cell (World.block_lt_of_cell? w _ (hc i hi))]; exact hc i hi⟩
theorem add_add (x : Addr) (i j : Nat) : (x.add i).add j = x.add (i + j) := by
  unfold Addr.add
  by_cases hi : i = 0 <;> by_cases hj : j = 0 <;> simp [hi, hj, Nat.add_assoc]
theorem Nums.tail {w : World} {x : Addr} {cap : Nat} {m : Int} {zs : List Int} (hle : zs.length + 1 ≤ cap) (hmax : cap ≤ maxLen) (hc : ∀ i, i < zs.length + 1 → w.cell? (x.add i) = some (.int .u64 ((m :: zs).getD i 0))) :
    Nums w (.slice (some (x.add 1)) zs.length (cap - 1)) zs :=
  .inr ⟨x.add 1, cap - 1, rfl, by omega, by omega, fun i hi => by rw [add_add, Nat.add_comm]; simpa using hc (i + 1) (by omega)⟩
theorem sum_nil (first : Int) (w : World) : Calls Tryd.prog 29 #[.int .u64 first, .slice none 0 0] w fun e w' => e = .returned (.int .u64 first) ∧ w = w' := by
  go_enter Tryd.func29, Tryd.ntmps29
  go_wp2
  go_rounds 1
  go_ret
  exact ⟨rfl, rfl⟩

theorem sum_nums (first : Int) (v : Value) (zs : List Int) (h0 : 0 ≤ first) (h1 : first ≤ 18446744073709551615) (w : World) (hv : Nums w v zs) (hz : ∀ n ∈ zs, 0 ≤ n ∧ n ≤ 18446744073709551615) :
    Calls Tryd.prog 29 #[.int .u64 first, v] w fun e w' => e = .returned (.int .u64 (satSum first zs)) ∧ w = w' := by
  rcases hv with ⟨rfl, rfl⟩ | ⟨x, cap, rfl, hle, hmax, hc⟩
  · exact sum_nil first w
  · exact sum_any first x zs.length cap zs h0 h1 rfl hle hmax w hc hz

set_option maxHeartbeats 1000000 in
theorem refSum_nums (v : Value) (zs : List Int) (w : World) (hv : Nums w v zs) (hz : ∀ n ∈ zs, 0 ≤ n ∧ n ≤ 18446744073709551615) :
    Calls Tryd.prog 46 #[v] w fun e w' => e = .returned (.int .u64 (satSum 0 zs)) ∧ Below w.heap.size w w' := by
  rcases hv with ⟨rfl, rfl⟩ | ⟨x, cap, rfl, hle, hmax, hc⟩
  · go_enter Tryd.func46, Tryd.ntmps46
    go_wp2
    go_rounds 1
    go_ret
    exact ⟨rfl, Below.refl _ _⟩
  · unfold maxLen at hmax
    have HC := Lib.hid hc
    have HZ := Lib.hid hz
    clear hc hz
    generalize hl : zs.length = len at *
    have HL := Lib.hid hl
    clear hl
    go_enter Tryd.func46, Tryd.ntmps46
    go_wp2
    go_loopw [3, 4] (fun s i wr => ∃ k : Nat, k ≤ len ∧ i = .int .i64 k ∧ s = .int .u64 (satSum 0 (zs.take k)) ∧ KeptW w wr) (fun _ i _ => len - (intOf i).toNat)
    case atStart => exact ⟨0, Nat.zero_le _, rfl, rfl, Below.refl _ _⟩
    case round =>
      obtain ⟨k, hk, rfl, rfl, hbw⟩ := hrel
      have hnn : ∀ n ∈ zs.take k, 0 ≤ n := fun n hn => (HZ.out n (List.mem_of_mem_take hn)).1
      have hb := satSum_bd (zs.take k) 0 (by omega) (by omega) hnn
      clear hnn
      by_cases hlt : k < len
      · have hkz : k < zs.length := by rw [HL.out]; exact hlt
        have hcell : wr.cell? (x.add k) = some (.int .u64 (zs.getD k 0)) := by
          have h := HC.out k hlt
          rw [Below.cell hbw (World.block_lt_of_cell? w _ h)]; exact h
        have hzb : 0 ≤ zs.getD k 0 ∧ zs.getD k 0 ≤ 18446744073709551615 := HZ.out _ (by rw [List.getD_eq_getElem?_getD, List.getElem?_eq_getElem hkz]; exact List.getElem_mem _)
        have HS := Lib.hid (satSum_snoc 0 zs k hkz)
        clear hkz
        generalize zs.getD k 0 = z at *
        generalize satSum 0 (zs.take k) = s at *
        have HA := Lib.hid (refAdd_any s z hb.1 hb.2 hzb.1 hzb.2)
        have HE := Lib.hid (endN_sat s z)
        have HB : Hid (Below w.heap.size w wr) := Lib.hid hbw
        clear hbw
        generalize addN s z = n1 at *
        generalize addB s z = k1 at *
        go_wp2_with (first
          | (go_at_call 66; refine (HA.out _).mono ?_; rintro e w1 ⟨rfl, hb1⟩)
          | (go_at_call 65; refine (end_any _ _ _).mono ?_; rintro e w2 ⟨rfl, hb2⟩))
        have s1 := HB.out.size
        have s2 := hb1.size
        go_roundw
        case rel => exact ⟨k + 1, by omega, by go_num, by rw [HS.out, ← HE.out], (HB.out.trans (hb1.mono (by omega))).trans (hb2.mono (by omega))⟩
        case measure => simp [intOf]; omega
      · have HB : Hid (Below w.heap.size w wr) := Lib.hid hbw
        clear hbw
        go_wp2
        go_ret
        exact ⟨ret_u64 (by rw [List.take_of_length_le (by rw [HL.out]; omega)]), HB.out⟩

/-! ### Two rows of the call's own: the numbers, and the same in the other order -/
def cellsU (ns : List Int) : List Value := ns.map (Value.int .u64)
structure Pair (w wr : World) (vL vB : Value) (ns : List Int) : Prop where
  low : wr.ownsRow w.heap.size 36 1 vL ns.length (cellsU ns)
  back : wr.ownsRow w.heap.size 36 1 vB ns.length (cellsU ns.reverse)
  sep : vB.ownBlock = none ∨ vB.ownBlock ≠ vL.ownBlock
  nil : ns = [] → vL = .slice none 0 0 ∧ vB = .slice none 0 0
  below : Below w.heap.size w wr
theorem Pair.start (w w1 : World) (h : Below w.heap.size w w1) : Pair w w1 (.slice none 0 0) (.slice none 0 0) [] :=
  ⟨World.ownsRow_nil _ _ _ _, World.ownsRow_nil _ _ _ _, .inl rfl, fun _ => ⟨rfl, rfl⟩, h⟩
theorem own_single (w1 : World) (B : Nat) (n : Int) (hB : B ≤ w1.heap.size) : (w1.alloc (.cells #[.int .u64 n] 36)).ownsRow B 36 1 (.slice (some ⟨w1.heap.size, 0, none⟩) 1 1) 1 [.int .u64 n] :=
  ⟨rfl, .inr ⟨w1.heap.size, 1, #[.int .u64 n], rfl, hB, heap_alloc_new w1 _, by omega, by unfold maxLen; omega, rfl, rfl⟩⟩
theorem Pair.mid {w wr w1 : World} {vL vB vL' : Value} {ns : List Int} (h : Pair w wr vL vB ns) (n : Int) (hg1 : (wr.alloc (.cells #[.int .u64 n] 36)).grownBy w1 vL.ownBlock) :
    (w1.alloc (.cells #[.int .u64 n] 36)).ownsRow w.heap.size 36 1 (.slice (some ⟨w1.heap.size, 0, none⟩) 1 1) 1 [.int .u64 n] ∧ (w1.alloc (.cells #[.int .u64 n] 36)).ownsRow w.heap.size 36 1 vB ns.length (cellsU ns.reverse) ∧
      w.heap.size ≤ (w1.alloc (.cells #[.int .u64 n] 36)).heap.size ∧ Below w.heap.size w w1 := by
  have hs := h.below.size
  have hs1 := hg1.size
  simp only [World.size_alloc] at hs1
  refine ⟨own_single w1 _ n (by omega), ((h.back.alloc _).kept hg1 h.sep).alloc _, by simp; omega, ?_⟩
  exact (h.below.alloc hs _).grown hg1 (by simp; omega) fun k hk => (h.low.lt k hk).1
theorem Pair.done {w wr w1 w2 : World} {vL vB vL' vB' : Value} {ns : List Int} (h : Pair w wr vL vB ns) (n : Int) (hg1 : (wr.alloc (.cells #[.int .u64 n] 36)).grownBy w1 vL.ownBlock)
    (o1 : w1.ownsRow w.heap.size 36 1 vL' (ns.length + 1) (cellsU ns ++ [.int .u64 n])) (o2 : w2.ownsRow w.heap.size 36 1 vB' (1 + ns.length) ([.int .u64 n] ++ cellsU ns.reverse))
    (hg2 : (w1.alloc (.cells #[.int .u64 n] 36)).grownBy w2 (some w1.heap.size)) (hat : vB'.ownBlock = some w1.heap.size ∨ vB'.ownBlock = some (w1.alloc (.cells #[.int .u64 n] 36)).heap.size) : Pair w w2 vL' vB' (ns ++ [n]) := by
  obtain ⟨_, _, hsz, hb⟩ := h.mid (vL' := vL') n hg1
  have hne : vL'.ownBlock = none ∨ vL'.ownBlock ≠ some w1.heap.size := by
    cases hv : vL'.ownBlock with
    | none => exact .inl rfl
    | some g =>
      refine .inr fun e => ?_
      injection e with e
      subst e
      exact absurd (o1.lt _ hv).2 (by omega)
  refine ⟨?_, ?_, ?_, fun e => by simp at e, ?_⟩
  · have := (o1.alloc (.cells #[.int .u64 n] 36)).kept hg2 hne
    simpa [cellsU] using this
  · have e : (ns ++ [n]).length = 1 + ns.length := by simp; omega
    rw [e]
    simpa [cellsU] using o2
  · refine .inr fun e => ?_
    rcases hat with ha | ha <;> rw [ha] at e
    · exact absurd (o1.lt _ e.symm).2 (by omega)
    · exact absurd (o1.lt _ e.symm).2 (by simp)
  · exact (hb.alloc hb.size _).grown hg2 (by simp; have := hb.size; omega) fun k hk => by injection hk with hk; subst hk; exact hb.size
/-- What a row of the call's own is good for: it reads as its numbers. -/
theorem own_nums {w : World} {B : Nat} {v : Value} {ns : List Int} (h : w.ownsRow B 36 1 v ns.length (cellsU ns)) : Nums w v ns := by
  have hc := fun g (hg : v.ownBlock = some g) => h.cells hg
  rcases h.2 with ⟨hv, h0⟩ | ⟨g, cap, cur, hv, _, _, hle, hmax, _, _⟩
  · exact .inl ⟨hv, List.eq_nil_of_length_eq_zero h0⟩
  · subst hv
    refine .inr ⟨⟨g, 0, none⟩, cap, rfl, hle, hmax, fun i hi => ?_⟩
    refine hc g rfl i _ ?_
    simp [cellsU, List.getD_eq_getElem?_getD, hi]
end Go.Proofs.YtnhddnldebdmbaaDoor
/- What can come ahead of a task: plain words. -/
namespace Go.Proofs.YtnhddnldebdmbaaDoor
open Go.RowKit
set_option linter.unusedVariables false
set_option linter.unusedSimpArgs false
/-! ### What blocks, and what comes ahead -/
abbrev U (n : Int) : Prop := 0 ≤ n ∧ n ≤ 18446744073709551615
/-- May the set be, and is there such a place? -/
def isB (l : List Ts) (i : Int) : Bool := decide ((chkAll l).2 = 0) && (decide (0 ≤ i) && decide (i < (l.length : Int)))
theorem isB_iff {l : List Ts} {i : Int} (h : isB l i = true) : (chkAll l).2 = 0 ∧ 0 ≤ i ∧ i < (l.length : Int) := by
  simpa [isB] using h
theorem isB_vs {l : List Ts} {i : Int} (h : isB l i = true) : Vs l := vs_of (isB_iff h).1
theorem isB_get {l : List Ts} {i : Int} (h : isB l i = true) : ∃ (k : Nat) (y : Ts), i = (k : Int) ∧ k < l.length ∧ l[k]? = some y := by
  obtain ⟨_, h0, h1⟩ := isB_iff h
  obtain ⟨k, rfl⟩ := Int.eq_ofNat_of_zero_le h0
  have hk : k < l.length := by omega
  exact ⟨k, l[k], rfl, hk, List.getElem?_eq_getElem hk⟩
def blkUF (p b : Int) (x : Ts) : Int := if x.p > p then max b (x.q - 1) else b
def blkU (p : Int) (l : List Ts) : Int := l.foldl (blkUF p) 0
/-- How often a task can be released in w ticks. -/
def oftS (x : Ts) (w : Int) : Int := ceilN (satAdd w x.j) x.t
def satMul (a b : Int) : Int := endN (mulB a b) (mulN a b)
def hiUF (p w s : Int) (x : Ts) : Int := if x.p < p then satAdd s (satMul (oftS x w) x.c) else s
def hiU (p w : Int) (l : List Ts) : Int := if w = 0 then 0 else l.foldl (hiUF p w) 0
def pOf (l : List Ts) (i : Int) : Int := (l.getD i.toNat ⟨ByteArray.empty, 1, 1, 1, 0, 1, 1⟩).p
def cOf (l : List Ts) (i : Int) : Int := (l.getD i.toNat ⟨ByteArray.empty, 1, 1, 1, 0, 1, 1⟩).c
/-- Block, Higher, and Need. -/
def blockI (l : List Ts) (i : Int) : Int := if isB l i then blkU (pOf l i) l else 0
def higherI (l : List Ts) (i w : Int) : Int := if isB l i then hiU (pOf l i) w l else 0
def needI (l : List Ts) (i w : Int) : Int := if isB l i then satSum 0 [cOf l i, blockI l i, higherI l i w] else 0
theorem foldl_snoc {α β : Type} (f : β → α → β) (b : β) (l : List α) (k : Nat) (x : α) (h : l[k]? = some x) : (l.take (k + 1)).foldl f b = f ((l.take k).foldl f b) x := by
  obtain ⟨hk, e⟩ := List.getElem?_eq_some_iff.1 h
  rw [List.take_succ_eq_append_getElem hk, List.foldl_append, e]
  rfl
theorem satAdd_u {a b : Int} (ha : 0 ≤ a) (hb : 0 ≤ b) : U (satAdd a b) := by
  unfold satAdd
  split
  · exact ⟨by omega, by omega⟩
  · exact ⟨by decide, by decide⟩
theorem satMul_u {a b : Int} (ha : 0 ≤ a) (hb : 0 ≤ b) : U (satMul a b) := by
  have := mul_nonneg' a b ha hb
  unfold satMul endN mulB mulN
  by_cases h : a * b ≤ 18446744073709551615
  · rw [if_pos h, decide_eq_true h, if_pos rfl]; exact ⟨this, h⟩
  · rw [decide_eq_false h, if_neg (by decide)]; exact ⟨by decide, by decide⟩
theorem ceil_u {a b : Int} (ha : U a) (hb : 1 ≤ b) : U (ceilN a b) := by
  obtain ⟨a0, a1⟩ := ha
  have hq := quo_le a b a0 (by omega)
  unfold ceilN
  rw [if_neg (by omega)]
  split
  · exact ⟨hq.1, by omega⟩
  · rename_i h
    have := quo_lt a b a0 a1 (by omega) h
    exact ⟨by omega, this⟩
theorem oft_u {x : Ts} {w : Int} (hx : TsOk x) (hw : U w) : U (oftS x w) := ceil_u (satAdd_u hw.1 hx.j0) hx.t0
theorem hiF_u {p w s : Int} {x : Ts} (hx : TsOk x) (hw : U w) (hs : U s) : U (hiUF p w s x) := by
  unfold hiUF
  split
  · exact satAdd_u hs.1 (satMul_u (oft_u hx hw).1 (by have := hx.c0; omega)).1
  · exact hs
theorem hi_take_u {l : List Ts} {p w : Int} (h : Vs l) (hw : U w) (k : Nat) : U ((l.take k).foldl (hiUF p w) 0) := by
  have : ∀ (m : List Ts) (s : Int), (∀ x ∈ m, TsOk x) → U s → U (m.foldl (hiUF p w) s) := by
    intro m
    induction m with
    | nil => intro s _ hs; exact hs
    | cons a r ih => intro s hm hs; exact ih _ (fun x hx => hm x (by simp [hx])) (hiF_u (hm a (by simp)) hw hs)
  exact this _ _ (fun x hx => h.all x (List.mem_of_mem_take hx)) ⟨by decide, by decide⟩
theorem blkUF_bd {p b : Int} {x : Ts} (hx : TsOk x) (hb : 0 ≤ b ∧ b ≤ 2147483646) : 0 ≤ blkUF p b x ∧ blkUF p b x ≤ 2147483646 := by
  have := hx.q0
  have := hx.q1
  unfold blkUF
  split <;> omega
theorem blk_take_bd {l : List Ts} {p : Int} (h : Vs l) (k : Nat) : 0 ≤ (l.take k).foldl (blkUF p) 0 ∧ (l.take k).foldl (blkUF p) 0 ≤ 2147483646 := by
  have : ∀ (m : List Ts) (s : Int), (∀ x ∈ m, TsOk x) → (0 ≤ s ∧ s ≤ 2147483646) → (0 ≤ m.foldl (blkUF p) s ∧ m.foldl (blkUF p) s ≤ 2147483646) := by
    intro m
    induction m with
    | nil => intro s _ hs; exact hs
    | cons a r ih => intro s hm hs; exact ih _ (fun x hx => hm x (by simp [hx])) (blkUF_bd (hm a (by simp)) hs)
  exact this _ _ (fun x hx => h.all x (List.mem_of_mem_take hx)) ⟨by decide, by decide⟩
theorem blockI_bd (l : List Ts) (i : Int) : 0 ≤ blockI l i ∧ blockI l i ≤ 2147483646 := by
  unfold blockI
  split
  · rename_i h
    have := blk_take_bd (p := pOf l i) (isB_vs h) l.length
    rwa [List.take_length] at this
  · omega
theorem higherI_u (l : List Ts) (i w : Int) (hw : U w) : U (higherI l i w) := by
  unfold higherI
  split
  · rename_i h
    unfold hiU
    split
    · exact ⟨by decide, by decide⟩
    · have := hi_take_u (p := pOf l i) (isB_vs h) hw l.length
      rwa [List.take_length] at this
  · exact ⟨by decide, by decide⟩
theorem pOf_get {l : List Ts} {k : Nat} {y : Ts} (h : l[k]? = some y) : pOf l (k : Int) = y.p ∧ cOf l (k : Int) = y.c := by
  unfold pOf cOf
  rw [Int.toNat_natCast, List.getD_eq_getElem?_getD, h]
  exact ⟨rfl, rfl⟩
end Go.Proofs.YtnhddnldebdmbaaDoor
/- Own rows of tasks: what LTak holds of them (where LTak is there, it stands in this text's place). -/
namespace Go.Proofs.YtnhddnldebdmbaaDoor
open Go.RowKit
set_option linter.unusedVariables false
set_option linter.unusedSimpArgs false
theorem own_len {w : World} {B e size n : Nat} {v : Value} {xs : List Value} (h : w.ownsRow B e size v n xs) : ∃ A cap, v = .slice A n cap ∧ n ≤ cap ∧ cap ≤ maxLen := by
  rcases h.2 with ⟨hv, h0⟩ | ⟨g, cap, cur, hv, hb, hh, hle, hmx, _, _⟩
  · exact ⟨none, 0, by rw [hv, h0], by omega, by unfold maxLen; omega⟩
  · exact ⟨_, cap, hv, hle, hmx⟩
theorem SetIn.rowR {B : Nat} {w : World} {v : Value} {k : Nat} {ts : List Ts} (h : SetIn B w v k ts) : ∃ A cap, v = .slice A ts.length cap ∧ Row w A cap ts := by
  rcases Nat.eq_zero_or_pos k with h0 | h0
  · subst h0
    obtain rfl := List.eq_nil_of_length_eq_zero h.len
    obtain ⟨A, cap, hv, hl, hm⟩ := Go.Proofs.YtnhddnldebdmbaaDoor.own_len h.row
    exact ⟨A, cap, hv, Row.nil _ _ (by unfold maxLen at hm; omega)⟩
  · obtain ⟨g, cap, hv, hO⟩ := h.own h0
    exact ⟨_, cap, by rw [h.len]; exact hv, hO.row⟩
theorem SetIn.snoc {B : Nat} {w w' : World} {v v' : Value} {k : Nat} {ts : List Ts} {x : Ts} (h : SetIn B w v k ts) (hx : TsW x) (ho : w'.ownsRow B 35 7 v' (k + 1) (tsCells ts ++ tsL x)) : SetIn B w' v' (k + 1) (ts ++ [x]) :=
  ⟨by simp [h.len], fun y hy => by
    rcases List.mem_append.1 hy with hy | hy
    · exact h.wf y hy
    · obtain rfl := List.mem_singleton.1 hy
      exact hx, by rw [tsCells_snoc]; exact ho⟩
end Go.Proofs.YtnhddnldebdmbaaDoor
/- A set, all of whose times are so many times as great. -/
namespace Go.Proofs.YtnhddnldebdmbaaDoor
open Go.RowKit
set_option linter.unusedVariables false
set_option linter.unusedSimpArgs false
theorem low25 (n : Int) : ∃ m : Nat, m < 33554432 ∧ bits .and .i64 n 33554431 = (m : Int) := by
  have h : (BitVec.ofInt 64 n &&& BitVec.ofInt 64 33554431).toNat ≤ 33554431 := by
    rw [BitVec.toNat_and]
    exact Nat.and_le_right
  have e : bits .and .i64 n 33554431 = IntKind.i64.wrap (((BitVec.ofInt 64 n &&& BitVec.ofInt 64 33554431).toNat : Nat) : Int) := rfl
  rw [e]
  generalize (BitVec.ofInt 64 n &&& BitVec.ofInt 64 33554431).toNat = z at *
  exact ⟨z, by omega, IntWalk.i64_in _ (by omega)⟩
/-- How many times. -/
def kOf (n : Int) : Int := 1 + bits .and .i64 n 33554431
theorem kOf_bd (n : Int) : 1 ≤ kOf n ∧ kOf n ≤ 33554432 := by
  obtain ⟨m, hm, e⟩ := low25 n
  unfold kOf
  rw [e]
  omega
def sclG (k : Int) (x : Ts) : Ts := ⟨x.n, x.c * k, x.t * k, x.d * k, x.j * k, x.q * k, x.p⟩
/-- Times that are small. -/
structure Sm20 (x : Ts) : Prop where
  c : 0 ≤ x.c ∧ x.c ≤ 20
  t : 0 ≤ x.t ∧ x.t ≤ 20
  d : 0 ≤ x.d ∧ x.d ≤ 20
  j : 0 ≤ x.j ∧ x.j ≤ 20
  q : 0 ≤ x.q ∧ x.q ≤ 20
theorem sm20_of {ts : List Ts} (h : SFs ts) : ∀ x ∈ ts, Sm20 x := fun x hx => by
  obtain ⟨i, hi, rfl⟩ := List.getElem_of_mem hx
  have s := h i _ (List.getElem?_eq_getElem hi)
  have := s.c0; have := s.c1; have := s.d0; have := s.d1; have := s.j0; have := s.t0; have := s.t1; have := s.q0; have := s.q1
  exact ⟨by omega, by omega, by omega, by omega, by omega⟩
theorem mul20 {a k : Int} (ha : 0 ≤ a ∧ a ≤ 20) (hk : 1 ≤ k ∧ k ≤ 33554432) : 0 ≤ a * k ∧ a * k ≤ 671088640 :=
  ⟨Int.mul_nonneg ha.1 (by omega), Int.mul_le_mul ha.2 hk.2 (by omega) (by omega)⟩
theorem sclG_w {x : Ts} {k : Int} (hx : TsW x) (hs : Sm20 x) (hk : 1 ≤ k ∧ k ≤ 33554432) : TsW (sclG k x) := by
  have h1 := mul20 hs.c hk
  have h2 := mul20 hs.t hk
  have h3 := mul20 hs.d hk
  have h4 := mul20 hs.j hk
  have h5 := mul20 hs.q hk
  exact ⟨hx.n, (show in64 (x.c * k) from ⟨by omega, by omega⟩), (show in64 (x.t * k) from ⟨by omega, by omega⟩), (show in64 (x.d * k) from ⟨by omega, by omega⟩), (show in64 (x.j * k) from ⟨by omega, by omega⟩), (show in64 (x.q * k) from ⟨by omega, by omega⟩), hx.p⟩
theorem scl_step {k : Int} {l : List Ts} {i : Nat} {x : Ts} (hx : l[i]? = some x) : (l.take (i + 1)).map (sclG k) = (l.take i).map (sclG k) ++ [sclG k x] := by
  obtain ⟨hk, e⟩ := List.getElem?_eq_some_iff.1 hx
  rw [List.take_succ_eq_append_getElem hk, List.map_append, e]
  rfl
/-- What great tells. -/
def GrP (l : List Ts) (k : Int) (w : World) (e : Ending) (w' : World) : Prop := ∃ A cap, e = .returned (.slice A (l.map (sclG k)).length cap) ∧ Row w' A cap (l.map (sclG k)) ∧ Below w.heap.size w w'
end Go.Proofs.YtnhddnldebdmbaaDoor
/- What comes ahead, in numbers that are not cut off: plain words for the laws. -/
namespace Go.Proofs.YtnhddnldebdmbaaDoor
open Go.RowKit
set_option linter.unusedVariables false
set_option linter.unusedSimpArgs false
theorem ceil_is {a t : Int} (ha : 0 ≤ a) (ht : 1 ≤ t) : ceilN a t = ceilI a t := by
  unfold ceilN ceilI
  rw [if_neg (by omega)]
  have e := Int.emod_add_mul_ediv a t
  have r0 := Int.emod_nonneg a (show t ≠ 0 by omega)
  have r1 := Int.emod_lt_of_pos a (show 0 < t by omega)
  generalize a / t = q at *
  generalize a % t = r at *
  by_cases h : r = 0
  · rw [if_pos h]
    rw [show a + t - 1 = (t - 1) + t * q by omega, Int.add_mul_ediv_left _ _ (by omega), Int.ediv_eq_zero_of_lt (by omega) (by omega)]
    omega
  · rw [if_neg h]
    rw [show a + t - 1 = (r - 1) + t * (q + 1) by rw [Int.mul_add]; omega, Int.add_mul_ediv_left _ _ (by omega), Int.ediv_eq_zero_of_lt (by omega) (by omega)]
    omega
theorem ceilI_nonneg {a t : Int} (ha : 0 ≤ a) (ht : 1 ≤ t) : 0 ≤ ceilI a t := Int.ediv_nonneg (by omega) (by omega)
theorem satMul_fit {a b : Int} (h : a * b ≤ 18446744073709551615) : satMul a b = a * b := by
  unfold satMul endN mulB mulN
  rw [decide_eq_true h, if_pos rfl, if_pos h]
theorem satAdd_fit {a b : Int} (h : a + b ≤ 18446744073709551615) : satAdd a b = a + b := by unfold satAdd; rw [if_pos h]
/-- What one task adds. -/
def addH (p w : Int) (x : Ts) : Int := if x.p < p then ceilI (w + x.j) x.t * x.c else 0
theorem addH_nonneg {p w : Int} {x : Ts} (hx : TsOk x) (hw : 0 ≤ w) : 0 ≤ addH p w x := by
  have := hx.c0; have := hx.t0; have := hx.j0
  unfold addH
  split
  · exact Int.mul_nonneg (ceilI_nonneg (by omega) hx.t0) (by omega)
  · omega
/-- Nothing is cut off. -/
structure Fits (B w : Int) (l : List Ts) : Prop where
  j : ∀ x ∈ l, w + x.j ≤ 18446744073709551615
  b : ∀ x ∈ l, ceilI (w + x.j) x.t * x.c ≤ B
  s : (l.length : Int) * B ≤ 18446744073709551615
  B0 : 0 ≤ B
theorem hi_fold {p w B : Int} (hw : 0 ≤ w) : ∀ (l : List Ts) (s : Int), (∀ x ∈ l, TsOk x) → (∀ x ∈ l, w + x.j ≤ 18446744073709551615) → (∀ x ∈ l, ceilI (w + x.j) x.t * x.c ≤ B) → 0 ≤ s → 0 ≤ B → s + (l.length : Int) * B ≤ 18446744073709551615 →
    l.foldl (hiUF p w) s = s + (l.map (addH p w)).sum
  | [], s, _, _, _, _, _, _ => by simp
  | x :: l, s, hv, hj, hb, hs, hB, h => by
    have hx := hv x (by simp)
    have hxj := hj x (by simp)
    have hxb := hb x (by simp)
    have hl : ((x :: l).length : Int) * B = (l.length : Int) * B + B := by rw [List.length_cons, Int.natCast_succ, Int.add_mul, Int.one_mul]
    have hlB : 0 ≤ (l.length : Int) * B := Int.mul_nonneg (by omega) hB
    have h0 := addH_nonneg (p := p) hx hw
    have h1 : addH p w x ≤ B := by unfold addH; split <;> omega
    have e : hiUF p w s x = s + addH p w x := by
      unfold hiUF addH oftS
      split
      · have := hx.j0; have := hx.t0
        have hc0 := Int.mul_nonneg (ceilI_nonneg (a := w + x.j) (by omega) hx.t0) (show 0 ≤ x.c by have := hx.c0; omega)
        rw [satAdd_fit hxj, ceil_is (by omega) hx.t0, satMul_fit (by omega), satAdd_fit (by omega)]
      · omega
    rw [List.foldl_cons, e, hi_fold hw l _ (fun y hy => hv y (by simp [hy])) (fun y hy => hj y (by simp [hy])) (fun y hy => hb y (by simp [hy])) (by omega) hB (by omega), List.map_cons, List.sum_cons]
    omega
theorem hiU_fits {l : List Ts} {p w B : Int} (hv : Vs l) (hw : 1 ≤ w) (hf : Fits B w l) : hiU p w l = (l.map (addH p w)).sum := by
  unfold hiU
  rw [if_neg (by omega), hi_fold (by omega) l 0 hv.all hf.j hf.b (by omega) hf.B0 (by have := hf.s; omega)]
  omega
theorem ceilI_mono {a b t : Int} (ht : 1 ≤ t) (h : a ≤ b) : ceilI a t ≤ ceilI b t := Int.ediv_le_ediv (by omega) (by omega)
theorem ceilI_step {a t : Int} (ht : 1 ≤ t) : ceilI (a + 1) t ≤ ceilI a t + 1 := by
  unfold ceilI
  have h1 : a + 1 + t - 1 ≤ (a + t - 1) + t * 1 := by omega
  have h2 := Int.ediv_le_ediv (show 0 < t by omega) h1
  rwa [Int.add_mul_ediv_left _ _ (by omega)] at h2
theorem ceilI_le {a t : Int} (ha : 0 ≤ a) (ht : 1 ≤ t) : ceilI a t ≤ a := by
  unfold ceilI
  refine Int.le_of_lt_add_one ?_
  refine Int.ediv_lt_of_lt_mul (by omega) ?_
  have : (a + 1) * 1 ≤ (a + 1) * t := Int.mul_le_mul_of_nonneg_left ht (by omega)
  have e : (a + 1) * t = a * t + t := by rw [Int.add_mul, Int.one_mul]
  have : a * 1 ≤ a * t := Int.mul_le_mul_of_nonneg_left ht ha
  omega
theorem ceilI_one {a t : Int} (h1 : 1 ≤ a) (h2 : a ≤ t) : ceilI a t = 1 := by
  unfold ceilI
  rw [show a + t - 1 = (a - 1) + t * 1 by omega, Int.add_mul_ediv_left _ _ (by omega), Int.ediv_eq_zero_of_lt (by omega) (by omega)]
  omega
theorem sum_le {l : List Ts} {f g : Ts → Int} (h : ∀ x ∈ l, f x ≤ g x) : (l.map f).sum ≤ (l.map g).sum := by
  induction l with
  | nil => simp
  | cons a r ih =>
    have h1 := h a (by simp)
    have h2 := ih fun x hx => h x (by simp [hx])
    simp only [List.map_cons, List.sum_cons]
    omega
theorem sum_eq {l : List Ts} {f g : Ts → Int} (h : ∀ x ∈ l, f x = g x) : (l.map f).sum = (l.map g).sum := by
  rw [List.map_congr_left h]
theorem sum_plus (l : List Ts) (f g : Ts → Int) : (l.map fun x => f x + g x).sum = (l.map f).sum + (l.map g).sum := by
  induction l with
  | nil => simp
  | cons a r ih => simp only [List.map_cons, List.sum_cons, ih]; omega
theorem sum_times (l : List Ts) (f : Ts → Int) (k : Int) : (l.map fun x => f x * k).sum = (l.map f).sum * k := by
  induction l with
  | nil => simp
  | cons a r ih => simp only [List.map_cons, List.sum_cons, ih, Int.add_mul]
/-- All work of each more urgent task, once. -/
def allC (p : Int) (l : List Ts) : Int := (l.map fun x => if x.p < p then x.c else 0).sum
theorem hi_grow {l : List Ts} (p w : Int) (hv : Vs l) (hw : 0 ≤ w) : (l.map (addH p w)).sum ≤ (l.map (addH p (w + 1))).sum ∧ (l.map (addH p (w + 1))).sum ≤ (l.map (addH p w)).sum + allC p l := by
  constructor
  · refine sum_le fun x hx => ?_
    have ho := hv.all x hx
    unfold addH
    split
    · exact Int.mul_le_mul_of_nonneg_right (ceilI_mono ho.t0 (by omega)) (by have := ho.c0; omega)
    · exact Int.le_refl _
  · unfold allC
    rw [← sum_plus]
    refine sum_le fun x hx => ?_
    have ho := hv.all x hx
    unfold addH
    split
    · have h1 := ceilI_step (a := w + x.j) ho.t0
      have h2 := Int.mul_le_mul_of_nonneg_right h1 (show 0 ≤ x.c by have := ho.c0; omega)
      rw [show w + x.j + 1 = w + 1 + x.j by omega, Int.add_mul, Int.one_mul] at h2
      exact h2
    · omega
/-- The first tick: each more urgent task once. -/
theorem hi_first {l : List Ts} (p : Int) (hv : Vs l) (hj : ∀ x ∈ l, x.j < x.t) : (l.map (addH p 1)).sum = allC p l := by
  unfold allC
  refine sum_eq fun x hx => ?_
  have ho := hv.all x hx
  have := ho.j0
  unfold addH
  split
  · rw [ceilI_one (by omega) (by have := hj x hx; omega), Int.one_mul]
  · rfl
/-! ### Less urgent ones -/
theorem foldl_hi_le {p p' w : Int} (hp : p ≤ p') (hw : U w) : ∀ (l : List Ts) (s s' : Int), (∀ x ∈ l, TsOk x) → 0 ≤ s → s ≤ s' → U s' → l.foldl (hiUF p w) s ≤ l.foldl (hiUF p' w) s'
  | [], s, s', _, _, h, _ => h
  | x :: l, s, s', hv, h0, h, hs' => by
    have hx := hv x (by simp)
    have hm := satMul_u (oft_u hx hw).1 (show 0 ≤ x.c by have := hx.c0; omega)
    rw [List.foldl_cons, List.foldl_cons]
    refine foldl_hi_le hp hw l _ _ (fun y hy => hv y (by simp [hy])) ?_ ?_ (hiF_u hx hw hs')
    · unfold hiUF satAdd
      split
      · split <;> (have := hm.1; omega)
      · exact h0
    · have h1 := hm.1
      have h2 := hm.2
      have h3 := hs'.2
      by_cases a : x.p < p
      · simp only [hiUF, if_pos a, if_pos (show x.p < p' by omega), satAdd]
        split <;> split <;> omega
      · by_cases b : x.p < p'
        · simp only [hiUF, if_neg a, if_pos b, satAdd]
          split <;> omega
        · simp only [hiUF, if_neg a, if_neg b]
          exact h
theorem hi_urgent {l : List Ts} {p p' w : Int} (hv : Vs l) (hp : p ≤ p') (hw : U w) : hiU p w l ≤ hiU p' w l := by
  unfold hiU
  split
  · exact Int.le_refl _
  · exact foldl_hi_le hp hw l 0 0 hv.all (by omega) (by omega) ⟨by decide, by decide⟩
theorem hi_none {l : List Ts} {p w : Int} (h : ∀ x ∈ l, ¬ x.p < p) : hiU p w l = 0 := by
  unfold hiU
  split
  · rfl
  · have : ∀ (m : List Ts) (s : Int), (∀ x ∈ m, ¬ x.p < p) → m.foldl (hiUF p w) s = s := by
      intro m
      induction m with
      | nil => intro s _; rfl
      | cons a r ih =>
        intro s hm
        rw [List.foldl_cons, show hiUF p w s a = s by unfold hiUF; rw [if_neg (hm a (by simp))]]
        exact ih s fun x hx => hm x (by simp [hx])
    exact this l 0 h
/-- What blocks, as the greatest Q. -/
def mostQ (p : Int) (l : List Ts) : Int := l.foldl (fun b x => if x.p > p then max b x.q else b) 0
theorem blk_most (p : Int) : ∀ (l : List Ts) (b m : Int), (∀ x ∈ l, 1 ≤ x.q) → b = max (m - 1) 0 → 0 ≤ m → l.foldl (blkUF p) b = max (l.foldl (fun b x => if x.p > p then max b x.q else b) m - 1) 0
  | [], b, m, _, h, _ => h
  | x :: l, b, m, hq, h, hm => by
    have hx := hq x (by simp)
    rw [List.foldl_cons, List.foldl_cons]
    refine blk_most p l _ _ (fun y hy => hq y (by simp [hy])) ?_ ?_
    · unfold blkUF
      split <;> omega
    · split <;> omega
theorem blk_is {l : List Ts} (p : Int) (hv : Vs l) : blkU p l = max (mostQ p l - 1) 0 := blk_most p l 0 0 (fun x hx => (hv.all x hx).q0) (by omega) (by omega)
theorem most_mono {p p' : Int} (hp : p ≤ p') : ∀ (l : List Ts) (a b : Int), (∀ x ∈ l, 1 ≤ x.q) → b ≤ a → 0 ≤ b → l.foldl (fun b x => if x.p > p' then max b x.q else b) b ≤ l.foldl (fun b x => if x.p > p then max b x.q else b) a
  | [], a, b, _, h, _ => h
  | x :: l, a, b, hq, h, h0 => by
    have hx := hq x (by simp)
    rw [List.foldl_cons, List.foldl_cons]
    refine most_mono hp l _ _ (fun y hy => hq y (by simp [hy])) ?_ ?_
    · by_cases c : x.p > p'
      · rw [if_pos c, if_pos (by omega)]; omega
      · rw [if_neg c]; split <;> omega
    · split <;> omega
theorem blk_urgent {l : List Ts} {p p' : Int} (hv : Vs l) (hp : p ≤ p') : blkU p' l ≤ blkU p l := by
  have := most_mono hp l 0 0 (fun x hx => (hv.all x hx).q0) (by omega) (by omega)
  rw [blk_is p hv, blk_is p' hv]
  unfold mostQ
  omega
theorem blk_none {l : List Ts} {p : Int} (h : ∀ x ∈ l, ¬ x.p > p) : blkU p l = 0 := by
  unfold blkU
  have : ∀ (m : List Ts) (s : Int), (∀ x ∈ m, ¬ x.p > p) → m.foldl (blkUF p) s = s := by
    intro m
    induction m with
    | nil => intro s _; rfl
    | cons a r ih =>
      intro s hm
      rw [List.foldl_cons, show blkUF p s a = s by unfold blkUF; rw [if_neg (hm a (by simp))]]
      exact ih s fun x hx => hm x (by simp [hx])
  exact this l 0 h
/-! ### So many times as great -/
theorem ceil_scl {a t k : Int} (hk : 0 < k) (ht : 1 ≤ t) : ceilI (a * k) (t * k) = ceilI a t := by
  unfold ceilI
  have e := Int.emod_add_mul_ediv (a + t - 1) t
  have r0 := Int.emod_nonneg (a + t - 1) (show t ≠ 0 by omega)
  have r1 := Int.emod_lt_of_pos (a + t - 1) (show 0 < t by omega)
  generalize (a + t - 1) / t = q at *
  generalize (a + t - 1) % t = r at *
  have h1 : a * k + t * k - 1 = (r * k + k - 1) + t * k * q := by
    have : (a + t - 1) * k = (r + t * q) * k := by rw [e]
    grind
  have h2 : r * k + k ≤ t * k := by
    have := Int.mul_le_mul_of_nonneg_right (show r + 1 ≤ t by omega) (show 0 ≤ k by omega)
    rw [Int.add_mul, Int.one_mul] at this
    exact this
  have h3 : 0 ≤ r * k := Int.mul_nonneg r0 (by omega)
  have h4 : 0 < t * k := Int.mul_pos (by omega) hk
  rw [h1, Int.add_mul_ediv_left _ _ (by omega), Int.ediv_eq_zero_of_lt (by omega) (by omega)]
  omega
theorem add_scl {p w k : Int} (hk : 0 < k) {x : Ts} (hx : TsOk x) : addH p (w * k) (sclG k x) = addH p w x * k := by
  have e : w * k + x.j * k = (w + x.j) * k := by rw [Int.add_mul]
  unfold addH sclG
  simp only
  split
  · rw [e, ceil_scl hk hx.t0, Int.mul_assoc]
  · rw [Int.zero_mul]
theorem most_scl {k p : Int} (hk : 0 < k) : ∀ (l : List Ts) (m : Int), (l.map (sclG k)).foldl (fun b x => if x.p > p then max b x.q else b) (m * k) = l.foldl (fun b x => if x.p > p then max b x.q else b) m * k
  | [], m => rfl
  | x :: l, m => by
    rw [List.map_cons, List.foldl_cons, List.foldl_cons]
    have e : (if (sclG k x).p > p then max (m * k) (sclG k x).q else m * k) = (if x.p > p then max m x.q else m) * k := by
      show (if x.p > p then max (m * k) (x.q * k) else m * k) = _
      split
      · rcases Int.le_total m x.q with h | h
        · have := Int.mul_le_mul_of_nonneg_right h (show 0 ≤ k by omega)
          rw [Int.max_eq_right h, Int.max_eq_right this]
        · have := Int.mul_le_mul_of_nonneg_right h (show 0 ≤ k by omega)
          rw [Int.max_eq_left h, Int.max_eq_left this]
      · rfl
    rw [e]
    exact most_scl hk l _
theorem sclG_check {i : Nat} {x : Ts} {k : Int} (h : SF i x) (hi : i < 8) (h1 : 1 ≤ x.p) (h2 : x.p ≤ 8) (hk : 1 ≤ k ∧ k ≤ 33554432) : checkE (sclG k x) = 0 := by
  have a1 := h.c0; have a2 := h.c1; have a3 := h.d0; have a4 := h.d1; have a5 := h.j0; have a6 := h.t0; have a7 := h.t1; have a8 := h.q0; have a9 := h.q1
  have c1 := mul20 (a := x.c) ⟨by omega, by omega⟩ hk
  have t1 := mul20 (a := x.t) ⟨by omega, by omega⟩ hk
  have d1 := mul20 (a := x.d) ⟨by omega, by omega⟩ hk
  have j1 := mul20 (a := x.j) ⟨by omega, by omega⟩ hk
  have q1 := mul20 (a := x.q) ⟨by omega, by omega⟩ hk
  have c2 : 1 * 1 ≤ x.c * k := Int.mul_le_mul a1 hk.1 (by omega) (by omega)
  have t2 : 1 * 1 ≤ x.t * k := Int.mul_le_mul (show 1 ≤ x.t by omega) hk.1 (by omega) (by omega)
  have d2 : 1 * 1 ≤ x.d * k := Int.mul_le_mul (show 1 ≤ x.d by omega) hk.1 (by omega) (by omega)
  have q2 : 1 * 1 ≤ x.q * k := Int.mul_le_mul a8 hk.1 (by omega) (by omega)
  have e1 := Int.mul_le_mul_of_nonneg_right a9 (show 0 ≤ k by omega)
  have e2 := Int.mul_le_mul_of_nonneg_right a3 (show 0 ≤ k by omega)
  have e3 := Int.mul_le_mul_of_nonneg_right a6 (show 0 ≤ k by omega)
  rw [Int.add_mul] at e2
  have hb := sf_check h hi h1 h2
  have hn : namedB x = true := by
    by_cases hh : (namedB x && rangedB x) = true
    · simp only [Bool.and_eq_true] at hh; exact hh.1
    · rw [checkE, if_neg hh] at hb; omega
  have hn' : namedB (sclG k x) = true := hn
  have hr : rangedB (sclG k x) = true := by
    show (inB (x.c * k) 1 2147483647 && (inB (x.t * k) 1 2147483647 && (inB (x.d * k) 1 2147483647 && (inB (x.q * k) 1 2147483647 && (inB (x.j * k) 0 2147483647 && inB x.p 1 1048576))))) = true
    rw [inB_yes (n := x.c * k) (by omega), inB_yes (n := x.t * k) (by omega), inB_yes (n := x.d * k) (by omega), inB_yes (n := x.q * k) (by omega), inB_yes (n := x.j * k) (by omega), inB_yes (n := x.p) (by omega)]
    rfl
  have ho : overB (sclG k x) = false := by
    show decide (x.q * k > x.c * k ∨ x.c * k + x.j * k > x.d * k ∨ x.d * k > x.t * k) = false
    exact decide_eq_false (by omega)
  rw [checkE, hn', hr, ho]
  rfl
theorem great_ok {ts : List Ts} {k : Int} (h1 : 1 ≤ ts.length) (h8 : ts.length ≤ 8) (hd : Dist ts) (hs : SFs ts) (hp : ∀ (i : Nat) (x : Ts), ts[i]? = some x → 1 ≤ x.p ∧ x.p ≤ 8) (hk : 1 ≤ k ∧ k ≤ 33554432) : (chkAll (ts.map (sclG k))).2 = 0 := by
  rw [chkAll, List.length_map, if_neg (by omega)]
  refine chkFrom_good _ [] (fun x hx => ?_) (fun i j x y hx hy he => ?_)
  · obtain ⟨z, hz, rfl⟩ := List.mem_map.1 hx
    obtain ⟨i, hi, rfl⟩ := List.getElem_of_mem hz
    have hg := List.getElem?_eq_getElem hi
    exact sclG_check (hs i _ hg) (by omega) (hp i _ hg).1 (hp i _ hg).2 hk
  · simp only [List.nil_append] at hx hy
    rw [List.getElem?_map] at hx hy
    obtain ⟨a, ha, rfl⟩ := Option.map_eq_some_iff.1 hx
    obtain ⟨b, hb, rfl⟩ := Option.map_eq_some_iff.1 hy
    rcases he with he | he
    · have e1 := (hs i a ha).n
      have e2 := (hs j b hb).n
      have hi := (List.getElem?_eq_some_iff.1 ha).1
      have hj := (List.getElem?_eq_some_iff.1 hb).1
      have he' : a.n = b.n := he
      rw [e1, e2] at he'
      exact name_t_inj i (by omega) j (by omega) he'
    · exact hd i j a b ha hb he
end Go.Proofs.YtnhddnldebdmbaaDoor
/- What can come ahead: the document's own answers. -/
namespace Go.Proofs.YtnhddnldebdmbaaDoor
open Go.RowKit
set_option linter.unusedVariables false
set_option linter.unusedSimpArgs false
set_option maxRecDepth 100000 in
theorem got_field (a q : Int) (w : World) : (Instr.field 58 (.agg #[.int .i64 a, .int .i64 q]) 1).run Tryd.prog w = .ok (.int .i64 q) w := by rfl
set_option maxRecDepth 100000 in
set_option maxHeartbeats 4000000 in
theorem ris_any (A : Option Addr) (cap : Nat) (l : List Ts) (i : Int) (w : World) (hR : Row w A cap l) (hi : in64 i) :
    Calls Tryd.prog 17 #[.slice A l.length cap, .int .i64 i] w fun e w' => e = .returned (.bool (isB l i)) ∧ Below w.heap.size w w' := by
  have K := Lib.hid (rcheckAll_any A cap l w hR)
  have HE : Hid (isB l i = (decide ((chkAll l).2 = 0) && (decide (0 ≤ i) && decide (i < (l.length : Int))))) := Lib.hid rfl
  have hmx := Nat.le_trans hR.le hR.mx
  have hgf := got_field
  generalize isB l i = b at *
  generalize (chkAll l).1 = a at *
  generalize (chkAll l).2 = ce at *
  generalize l.length = N at *
  clear hR
  by_cases h1 : ce = 0
  · subst h1
    by_cases h2 : 0 ≤ i
    · have u2 : decide (i ≥ 0) = true := decide_eq_true h2
      by_cases h3 : i < (N : Int)
      · have u3 : decide (i < (N : Int)) = true := decide_eq_true h3
        have HB : Hid (b = true) := Lib.hid (by rw [HE.out, decide_eq_true h2, u3]; rfl)
        go_enter Tryd.func17, Tryd.ntmps17
        go_wp2_with (go_at_call 24; (with_reducible refine K.out.mono ?_); rintro e w1 ⟨rfl, h⟩)
        go_ret
        exact ⟨by rw [HB.out]; rfl, h⟩
      · have u3 : decide (i < (N : Int)) = false := decide_eq_false h3
        have HB : Hid (b = false) := Lib.hid (by rw [HE.out, u3]; simp)
        go_enter Tryd.func17, Tryd.ntmps17
        go_wp2_with (go_at_call 24; (with_reducible refine K.out.mono ?_); rintro e w1 ⟨rfl, h⟩)
        go_ret
        exact ⟨by rw [HB.out]; rfl, h⟩
    · have u2 : decide (i ≥ 0) = false := decide_eq_false h2
      have u2' : decide (0 ≤ i) = false := decide_eq_false h2
      have HB : Hid (b = false) := Lib.hid (by rw [HE.out, u2']; simp)
      go_enter Tryd.func17, Tryd.ntmps17
      go_wp2_with (go_at_call 24; (with_reducible refine K.out.mono ?_); rintro e w1 ⟨rfl, h⟩)
      go_ret
      exact ⟨by rw [HB.out]; rfl, h⟩
  · have u1 : (ce == 0) = false := by simpa using h1
    have HB : Hid (b = false) := Lib.hid (by rw [HE.out, decide_eq_false h1]; rfl)
    go_enter Tryd.func17, Tryd.ntmps17
    go_wp2_with (go_at_call 24; (with_reducible refine K.out.mono ?_); rintro e w1 ⟨rfl, h⟩)
    go_ret
    exact ⟨by rw [HB.out]; rfl, h⟩
theorem ret_k {k : IntKind} {a b : Int} (h : a = b) : Ending.returned (.int k a) = .returned (.int k b) := by rw [h]
set_option maxRecDepth 100000 in
set_option maxHeartbeats 4000000 in
theorem rblock_any (A : Option Addr) (cap : Nat) (l : List Ts) (i : Int) (w : World) (hR : Row w A cap l) (hi : in64 i) :
    Calls Tryd.prog 47 #[.slice A l.length cap, .int .i64 i] w fun e w' => e = .returned (.int .i64 (blockI l i)) ∧ Below w.heap.size w w' := by
  have K := Lib.hid (ris_any A cap l i w hR hi)
  have hle := hR.le
  have hmx := hR.mx
  cases hb : isB l i
  · rw [hb] at K
    have e : blockI l i = 0 := by unfold blockI; rw [hb]; rfl
    rw [e]
    clear hb e hR
    generalize l.length = N at *
    go_enter Tryd.func47, Tryd.ntmps47
    go_wp2_with (go_at_call 17; (with_reducible refine K.out.mono ?_); rintro e w1 ⟨rfl, h⟩)
    go_loopw [6, 7] (fun b j wr => b = .int .i64 0 ∧ j = .int .i64 0 ∧ wr = w1) (fun _ _ _ => 0)
    case atStart => exact ⟨rfl, rfl, rfl⟩
    case round =>
      obtain ⟨rfl, rfl, rfl⟩ := hrel
      by_cases h0 : 0 < N
      · have u0 : decide ((0 : Int) < (N : Int)) = true := decide_eq_true (by omega)
        go_wp2
        go_ret
        exact ⟨rfl, h⟩
      · have u0 : decide ((0 : Int) < (N : Int)) = false := decide_eq_false (by omega)
        go_wp2
        go_ret
        exact ⟨rfl, h⟩
  · rw [hb] at K
    have hv := isB_vs hb
    obtain ⟨ki, y, rfl, hki, hy⟩ := isB_get hb
    have hE : blockI l (ki : Int) = blkU y.p l := by unfold blockI; rw [hb, if_pos rfl, (pOf_get hy).1]
    have HE := Lib.hid hE
    have HV := Lib.hid hv
    have ROW := Lib.hid hR
    have HY := Lib.hid hy
    rw [hE]
    clear hb hE hR hv hy
    generalize hN : l.length = N at *
    have HN := Lib.hid hN
    clear hN
    have hI0 : (0 : Int) ≤ (ki : Int) := by omega
    have hI1 : (ki : Int) < ((N : Nat) : Int) := by omega
    go_enter Tryd.func47, Tryd.ntmps47
    go_wp2_with (go_at_call 17; (with_reducible refine K.out.mono ?_); rintro e w1 ⟨rfl, h⟩)
    have HW1 := Lib.hid h
    clear h
    go_loopw [6, 7] (fun b j wr => ∃ k : Nat, k ≤ N ∧ j = .int .i64 k ∧ b = .int .i64 ((l.take k).foldl (blkUF y.p) 0) ∧ Hid (Lt w wr)) (fun _ j _ => N - (intOf j).toNat)
    case atStart => exact ⟨0, Nat.zero_le _, rfl, rfl, Lib.hid HW1.out⟩
    case round =>
      obtain ⟨k, hk, rfl, rfl, HL⟩ := hrel
      have hbd := blk_take_bd (p := y.p) HV.out k
      by_cases hlt : k < N
      · obtain ⟨b', o, x, rfl, hx, hxw, hbl, hT⟩ := ROW.out.get (k := k) (by rw [HN.out]; exact hlt)
        have hTr := hT.later HL.out
        have c5 := hTr.c5
        have c6 := hTr.c6
        have hTy := (ROW.out.at2 HY.out).later HL.out
        have d6 := hTy.c6
        have hi0 : (0 : Int) ≤ (k : Int) := by omega
        have hi1 : (k : Int) < ((N : Nat) : Int) := by omega
        have hok := HV.out.all x (List.mem_of_getElem? hx)
        have q0 := hok.q0
        have q1 := hok.q1
        have HS := Lib.hid (foldl_snoc (blkUF y.p) 0 l k x hx)
        generalize (l.take k).foldl (blkUF y.p) 0 = b at *
        clear hT hTr hTy hx hxw hbl hok
        by_cases hp : x.p > y.p
        · have u1 : decide (x.p > y.p) = true := decide_eq_true hp
          have u1' : decide (y.p < x.p) = true := decide_eq_true hp
          have HF : Hid (blkUF y.p b x = max b (x.q - 1)) := Lib.hid (by unfold blkUF; rw [if_pos hp])
          clear hp
          go_upto_region 6 with (fail)
          go_quiet (fail)
          go_wp2
          go_roundw
          case rel => exact ⟨k + 1, by omega, by go_num, by rw [HS.out, HF.out], Lib.hid (below_drewN HL.out _)⟩
          case measure => simp [intOf]; omega
        · have u1 : decide (x.p > y.p) = false := decide_eq_false hp
          have u1' : decide (y.p < x.p) = false := decide_eq_false hp
          have HF : Hid (blkUF y.p b x = b) := Lib.hid (by unfold blkUF; rw [if_neg hp])
          clear hp
          go_upto_region 6 with (fail)
          go_quiet (fail)
          go_wp2
          go_roundw
          case rel => exact ⟨k + 1, by omega, by go_num, by rw [HS.out, HF.out], Lib.hid (below_drewN HL.out _)⟩
          case measure => simp [intOf]; omega
      · obtain rfl : k = N := by omega
        go_wp2
        go_ret
        exact ⟨ret_k (by rw [List.take_of_length_le (by rw [HN.out]; exact Nat.le_refl _)]; rfl), HL.out⟩
set_option maxRecDepth 100000 in
theorem num_field (n : Int) (k : Bool) (w : World) : (Instr.field 96 (.agg #[.int .u64 n, .bool k]) 0).run Tryd.prog w = .ok (.int .u64 n) w := by rfl
/-- The document's End of a sum, and of a product. -/
theorem endN_add (a b : Int) : endN (addB a b) (addN a b) = satAdd a b := by
  unfold endN addB addN satAdd
  by_cases h : a + b ≤ 18446744073709551615
  · rw [decide_eq_true h, if_pos rfl, if_pos h, if_pos h]
  · rw [decide_eq_false h, if_neg (by decide), if_neg h]
set_option maxRecDepth 100000 in
set_option maxHeartbeats 8000000 in
theorem rhigher_any (A : Option Addr) (cap : Nat) (l : List Ts) (i v : Int) (w : World) (hR : Row w A cap l) (hi : in64 i) (hv0 : U v) :
    Calls Tryd.prog 48 #[.slice A l.length cap, .int .i64 i, .int .u64 v] w fun e w' => e = .returned (.int .u64 (higherI l i v)) ∧ Below w.heap.size w w' := by
  have K := Lib.hid (ris_any A cap l i w hR hi)
  have hle := hR.le
  have hmx := hR.mx
  by_cases hb : isB l i = true ∧ v ≠ 0
  · obtain ⟨hb, hvn⟩ := hb
    rw [hb] at K
    have hv := isB_vs hb
    obtain ⟨ki, y, rfl, hki, hy⟩ := isB_get hb
    have hE : higherI l (ki : Int) v = l.foldl (hiUF y.p v) 0 := by unfold higherI hiU; rw [hb, if_pos rfl, if_neg hvn, (pOf_get hy).1]
    have HV := Lib.hid hv
    have ROW := Lib.hid hR
    have HY := Lib.hid hy
    rw [hE]
    obtain ⟨v0, v1⟩ := hv0
    have hvp : decide (v > 0) = true := decide_eq_true (by omega)
    have hvp' : decide (0 < v) = true := decide_eq_true (by omega)
    clear hb hE hR hv hy
    generalize hN : l.length = N at *
    have HN := Lib.hid hN
    clear hN
    have hI0 : (0 : Int) ≤ (ki : Int) := by omega
    have hI1 : (ki : Int) < ((N : Nat) : Int) := by omega
    go_enter Tryd.func48, Tryd.ntmps48
    go_wp2_with (go_at_call 17; (with_reducible refine K.out.mono ?_); rintro e w1 ⟨rfl, h⟩)
    have HW1 := Lib.hid h
    clear h
    go_loopw [8, 9] (fun b j wr => ∃ k : Nat, k ≤ N ∧ j = .int .i64 k ∧ b = .int .u64 ((l.take k).foldl (hiUF y.p v) 0) ∧ Hid (Lt w wr)) (fun _ j _ => N - (intOf j).toNat)
    case atStart => exact ⟨0, Nat.zero_le _, rfl, rfl, Lib.hid HW1.out⟩
    case round =>
      obtain ⟨k, hk, rfl, rfl, HL⟩ := hrel
      have hsu := hi_take_u (p := y.p) (w := v) HV.out ⟨v0, v1⟩ k
      by_cases hlt : k < N
      · obtain ⟨b', o, x, rfl, hx, hxw, hbl, hT⟩ := ROW.out.get (k := k) (by rw [HN.out]; exact hlt)
        have hTr := hT.later HL.out
        have HTR := Lib.hid hTr
        have c6 := hTr.c6
        have hTy := (ROW.out.at2 HY.out).later HL.out
        have d6 := hTy.c6
        have hi0 : (0 : Int) ≤ (k : Int) := by omega
        have hi1 : (k : Int) < ((N : Nat) : Int) := by omega
        have hok := HV.out.all x (List.mem_of_getElem? hx)
        have HS := Lib.hid (foldl_snoc (hiUF y.p v) 0 l k x hx)
        generalize (l.take k).foldl (hiUF y.p v) 0 = s at *
        by_cases hp : x.p < y.p
        · have u1 : decide (x.p < y.p) = true := decide_eq_true hp
          have HF : Hid (hiUF y.p v s x = satAdd s (satMul (oftS x v) x.c)) := Lib.hid (by unfold hiUF; rw [if_pos hp])
          have hou := oft_u hok ⟨v0, v1⟩
          have hlu := satAdd_u v0 hok.j0
          have hmu := satMul_u hou.1 (show 0 ≤ x.c by have := hok.c0; omega)
          have hw1 : IntKind.u64.wrap x.j = x.j := by rw [IntKind.wrap_u64]; have := hok.j0; have := hok.j1; omega
          have hw2 : IntKind.u64.wrap x.t = x.t := by rw [IntKind.wrap_u64]; have := hok.t0; have := hok.t1; omega
          have hw3 : IntKind.u64.wrap x.c = x.c := by rw [IntKind.wrap_u64]; have := hok.c0; have := hok.c1; omega
          have j0 := hok.j0
          have j1 := hok.j1
          have t0 : 0 ≤ x.t := by have := hok.t0; omega
          have t1 := hok.t1
          have cc0 : 0 ≤ x.c := by have := hok.c0; omega
          have cc1 := hok.c1
          have KA := Lib.hid (fun W => refAdd_any v x.j v0 v1 j0 (by omega) W)
          have KE := fun W => end_any (addN v x.j) (addB v x.j) W
          rw [endN_add] at KE
          have KC := fun W => refCeil_any (satAdd v x.j) x.t hlu.1 hlu.2 t0 (by omega) W
          have ho : ceilN (satAdd v x.j) x.t = oftS x v := rfl
          rw [ho] at KC
          have KM := Lib.hid (fun W => refMul_any (oftS x v) x.c hou.1 hou.2 cc0 (by omega) W)
          have KF := fun W => end_any (mulN (oftS x v) x.c) (mulB (oftS x v) x.c) W
          have hm : endN (mulB (oftS x v) x.c) (mulN (oftS x v) x.c) = satMul (oftS x v) x.c := rfl
          rw [hm] at KF
          have KA2 := Lib.hid (fun W => refAdd_any s (satMul (oftS x v) x.c) hsu.1 hsu.2 hmu.1 hmu.2 W)
          have KE2 := fun W => end_any (addN s (satMul (oftS x v) x.c)) (addB s (satMul (oftS x v) x.c)) W
          rw [endN_add] at KE2
          have KE := Lib.hid KE
          have KC := Lib.hid KC
          have KF := Lib.hid KF
          have KE2 := Lib.hid KE2
          have hnf := num_field
          clear ho hm
          generalize satAdd v x.j = la at *
          generalize addN v x.j = n1 at *
          generalize addB v x.j = k1 at *
          generalize ceilB x.t = k2 at *
          generalize oftS x v = of at *
          generalize mulN of x.c = n3 at *
          generalize mulB of x.c = k3 at *
          generalize satMul of x.c = mu at *
          generalize satAdd s mu = s' at *
          generalize addN s mu = n4 at *
          generalize addB s mu = k4 at *
          clear hT hTr hTy hx hxw hbl hok hp hou hlu hmu hsu
          go_upto_region 6 with (fail)
          go_quiet (fail)
          have HLL := Lib.hid (below_drewN HL.out nq)
          have HT := Lib.hid (HTR.out.later (below_drewN (Below.refl _ _) nq))
          clear HL HTR c6 d6
          generalize wr.drewN nq = W1 at *
          have c1 := HT.out.c1
          have c2 := HT.out.c2
          have c4 := HT.out.c4
          go_wp2_with (first
            | (go_at_call 66; (with_reducible refine (KA.out _).mono ?_); rintro e v2 ⟨rfl, h⟩; have HT := Lib.hid (HT.out.later h); have HLL := Lib.hid (lt_step _ _ HLL.out h); have c1 := HT.out.c1; have c2 := HT.out.c2; have c4 := HT.out.c4; clear h)
            | (go_at_call 66; (with_reducible refine (KA2.out _).mono ?_); rintro e v2 ⟨rfl, h⟩; have HT := Lib.hid (HT.out.later h); have HLL := Lib.hid (lt_step _ _ HLL.out h); have c1 := HT.out.c1; have c2 := HT.out.c2; have c4 := HT.out.c4; clear h)
            | (go_at_call 65; (with_reducible refine (KE.out _).mono ?_); rintro e v2 ⟨rfl, h⟩; have HT := Lib.hid (HT.out.later h); have HLL := Lib.hid (lt_step _ _ HLL.out h); have c1 := HT.out.c1; have c2 := HT.out.c2; have c4 := HT.out.c4; clear h)
            | (go_at_call 65; (with_reducible refine (KF.out _).mono ?_); rintro e v2 ⟨rfl, h⟩; have HT := Lib.hid (HT.out.later h); have HLL := Lib.hid (lt_step _ _ HLL.out h); have c1 := HT.out.c1; have c2 := HT.out.c2; have c4 := HT.out.c4; clear h)
            | (go_at_call 65; (with_reducible refine (KE2.out _).mono ?_); rintro e v2 ⟨rfl, h⟩; have HT := Lib.hid (HT.out.later h); have HLL := Lib.hid (lt_step _ _ HLL.out h); have c1 := HT.out.c1; have c2 := HT.out.c2; have c4 := HT.out.c4; clear h)
            | (go_at_call 67; (with_reducible refine (KC.out _).mono ?_); rintro e v2 ⟨rfl, h⟩; have HT := Lib.hid (HT.out.later h); have HLL := Lib.hid (lt_step _ _ HLL.out h); have c1 := HT.out.c1; have c2 := HT.out.c2; have c4 := HT.out.c4; clear h)
            | (go_at_call 68; (with_reducible refine (KM.out _).mono ?_); rintro e v2 ⟨rfl, h⟩; have HT := Lib.hid (HT.out.later h); have HLL := Lib.hid (lt_step _ _ HLL.out h); have c1 := HT.out.c1; have c2 := HT.out.c2; have c4 := HT.out.c4; clear h)
            | fail)
          go_roundw
          case rel => exact ⟨k + 1, by omega, by go_num, by rw [HS.out, HF.out], HLL⟩
          case measure => simp [intOf]; omega
        · have u1 : decide (x.p < y.p) = false := decide_eq_false hp
          have HF : Hid (hiUF y.p v s x = s) := Lib.hid (by unfold hiUF; rw [if_neg hp])
          clear hT hTr hTy hx hxw hbl hok hp hsu
          go_upto_region 6 with (fail)
          go_quiet (fail)
          go_wp2
          go_roundw
          case rel => exact ⟨k + 1, by omega, by go_num, by rw [HS.out, HF.out], Lib.hid (below_drewN HL.out _)⟩
          case measure => simp [intOf]; omega
      · obtain rfl : k = N := by omega
        go_wp2
        go_ret
        exact ⟨ret_k (by rw [List.take_of_length_le (by rw [HN.out]; exact Nat.le_refl _)]), HL.out⟩
  · have hE : higherI l i v = 0 := by
      unfold higherI hiU
      by_cases h1 : isB l i = true
      · rw [if_pos h1, if_pos (Classical.byContradiction fun h2 => hb ⟨h1, h2⟩)]
      · rw [if_neg h1]
    rw [hE]
    obtain ⟨v0, v1⟩ := hv0
    generalize hbb : isB l i = b at *
    have hq : b = true → v = 0 := fun h1 => Classical.byContradiction fun h2 => hb ⟨h1, h2⟩
    clear hE hR hbb hb
    generalize l.length = N at *
    go_enter Tryd.func48, Tryd.ntmps48
    go_wp2_with (go_at_call 17; (with_reducible refine K.out.mono ?_); rintro e w1 ⟨rfl, h⟩)
    go_loopw [8, 9] (fun s j wr => s = .int .u64 0 ∧ j = .int .i64 0 ∧ wr = w1) (fun _ _ _ => 0)
    case atStart => exact ⟨rfl, rfl, rfl⟩
    case round =>
      obtain ⟨rfl, rfl, rfl⟩ := hrel
      by_cases h0 : 0 < N
      · have u0 : decide ((0 : Int) < (N : Int)) = true := decide_eq_true (by omega)
        cases b
        · clear hq
          go_wp2
          go_ret
          exact ⟨rfl, h⟩
        · obtain rfl := hq rfl
          clear hq
          go_wp2
          go_ret
          exact ⟨rfl, h⟩
      · have u0 : decide ((0 : Int) < (N : Int)) = false := decide_eq_false (by omega)
        clear hq
        go_wp2
        go_ret
        exact ⟨rfl, h⟩
end Go.Proofs.YtnhddnldebdmbaaDoor
/- Need: the document's own answer. -/
namespace Go.Proofs.YtnhddnldebdmbaaDoor
open Go.RowKit
set_option linter.unusedVariables false
set_option linter.unusedSimpArgs false
theorem three_nums (W V : World) (a b c : Int) (hc : ∀ i u, V.cell? ⟨W.heap.size, i, none⟩ = some u ↔ (#[Value.int .u64 a, .int .u64 b, .int .u64 c] : Array Value)[i]? = some u) : Nums V (.slice (some ⟨W.heap.size, 0, none⟩) 3 3) [a, b, c] := by
  refine .inr ⟨⟨W.heap.size, 0, none⟩, 3, rfl, by simp, by unfold maxLen; omega, fun i hi => ?_⟩
  rw [add_none, Nat.zero_add]
  match i, hi with
  | 0, _ => exact (hc 0 _).2 rfl
  | 1, _ => exact (hc 1 _).2 rfl
  | 2, _ => exact (hc 2 _).2 rfl
theorem three_new (W : World) (a b c : Int) : Nums (W.alloc (.cells #[.int .u64 a, .int .u64 b, .int .u64 c] 36)) (.slice (some ⟨W.heap.size, 0, none⟩) 3 3) [a, b, c] :=
  three_nums W _ a b c fun i u => by rw [cell_of_row _ _ i _ _ _ (heap_alloc_new W _)]
set_option maxRecDepth 100000 in
set_option maxHeartbeats 8000000 in
theorem rneed_any (A : Option Addr) (cap : Nat) (l : List Ts) (i v : Int) (w : World) (hR : Row w A cap l) (hi : in64 i) (hv0 : U v) :
    Calls Tryd.prog 32 #[.slice A l.length cap, .int .i64 i, .int .u64 v] w fun e w' => e = .returned (.int .u64 (needI l i v)) ∧ Below w.heap.size w w' := by
  have K := Lib.hid (ris_any A cap l i w hR hi)
  have hle := hR.le
  have hmx := hR.mx
  cases hb : isB l i
  · rw [hb] at K
    have e : needI l i v = 0 := by unfold needI; rw [hb]; rfl
    rw [e]
    clear hb e hR
    generalize l.length = N at *
    go_enter Tryd.func32, Tryd.ntmps32
    go_wp2_with (go_at_call 17; (with_reducible refine K.out.mono ?_); rintro e w1 ⟨rfl, h⟩)
    go_ret
    exact ⟨rfl, h⟩
  · rw [hb] at K
    have hv := isB_vs hb
    obtain ⟨ki, y, rfl, hki, hy⟩ := isB_get hb
    have hE : needI l (ki : Int) v = satSum 0 [y.c, blockI l ki, higherI l ki v] := by unfold needI; rw [hb, if_pos rfl, (pOf_get hy).2]
    rw [hE]
    have hbb := blockI_bd l ki
    have hhu := higherI_u l ki v hv0
    have KB := Lib.hid (fun W (h : Lt w W) => rblock_any A cap l ki W (hR.later h) hi)
    have KH := Lib.hid (fun W (h : Lt w W) => rhigher_any A cap l ki v W (hR.later h) hi hv0)
    have hok := hv.all y (List.mem_of_getElem? hy)
    have ROW := Lib.hid hR
    have HY := Lib.hid hy
    have y0 : 0 ≤ y.c := by have := hok.c0; omega
    have y1 := hok.c1
    have hw1 : IntKind.u64.wrap y.c = y.c := by rw [IntKind.wrap_u64]; omega
    have hw2 : IntKind.u64.wrap (blockI l ki) = blockI l ki := by rw [IntKind.wrap_u64]; omega
    have KS := Lib.hid (fun V u (hu : Nums V u [y.c, blockI l ki, higherI l ki v]) => refSum_nums u [y.c, blockI l ki, higherI l ki v] V hu (by
      intro n hn
      simp only [List.mem_cons, List.not_mem_nil, or_false] at hn
      rcases hn with rfl | rfl | rfl
      · omega
      · omega
      · exact hhu))
    have HN3 := Lib.hid (fun W => three_new W y.c (blockI l ki) (higherI l ki v))
    generalize satSum 0 [y.c, blockI l ki, higherI l ki v] = r at *
    generalize hbq : blockI l ki = bk at *
    generalize hhq : higherI l ki v = hh at *
    clear hb hE hR hv hy hok hhu
    generalize hN : l.length = N at *
    clear hN
    have hI0 : (0 : Int) ≤ (ki : Int) := by omega
    have hI1 : (ki : Int) < ((N : Nat) : Int) := by omega
    go_enter Tryd.func32, Tryd.ntmps32
    obtain ⟨b', o, x, rfl, hx, hxw, hbl, hT⟩ := ROW.out.get (k := ki) (by have := (List.getElem?_eq_some_iff.1 HY.out).1; exact this)
    obtain rfl : y = x := by have := HY.out.symm.trans hx; simpa using this
    go_upto_region 4 with (go_at_call 17; (with_reducible refine K.out.mono ?_); rintro e w1 ⟨rfl, h⟩; have HL := Lib.hid (show Lt w w1 from h); have HT := Lib.hid (hT.later h); have c1 := HT.out.c1; clear h)
    go_region_law (first
      | (go_simp; go_at_call 47; (with_reducible refine (KB.out _ (by first | exact HL.out | exact lt_step _ _ HL.out (below_drew _))).mono ?_); rintro e w2 ⟨rfl, h⟩; have HL2 := Lib.hid (lt_step _ _ (show Lt w _ by first | exact HL.out | exact lt_step _ _ HL.out (below_drew _)) h); have HT2 := Lib.hid ((HT.out.later (show Below w1.heap.size w1 _ by first | exact Below.refl _ _ | exact below_drew w1)).later h); have c1 := HT2.out.c1; clear h)
      | (go_simp; go_at_call 48; (with_reducible refine (KH.out _ (by first | exact HL2.out | exact lt_step _ _ HL2.out (below_drew _))).mono ?_); rintro e w3 ⟨rfl, h⟩; have HL3 := Lib.hid (lt_step _ _ (show Lt w _ by first | exact HL2.out | exact lt_step _ _ HL2.out (below_drew _)) h); have HT3 := Lib.hid ((HT2.out.later (show Below w2.heap.size w2 _ by first | exact Below.refl _ _ | exact below_drew w2)).later h); have c1 := HT3.out.c1; clear h)
      | (go_simp; go_at_call 46; (with_reducible refine (KS.out _ _ (HN3.out _)).mono ?_); rintro e w4 ⟨rfl, h⟩; have HL4 := Lib.hid (lt_step _ _ (lt_step _ _ HL3.out ((Below.refl _ _).alloc (Nat.le_refl _) _)) h); clear h)
      | fail)
    all_goals
      go_wp2
      go_ret
      exact ⟨rfl, HL4.out⟩
end Go.Proofs.YtnhddnldebdmbaaDoor
/- May the set be, and is there such a place; how often a task can be released. -/
namespace Go.Proofs.YtnhddnldebdmbaaDoor
open Go.RowKit
set_option linter.unusedVariables false
set_option linter.unusedSimpArgs false
theorem dmay_any (A : Option Addr) (cap : Nat) (l : List Ts) (i : Int) (w : World) (hR : Row w A cap l) (hi : in64 i) :
    Calls Tryd.prog 28 #[.slice A l.length cap, .int .i64 i] w fun e w' => e = .returned (.bool (isB l i)) ∧ Below w.heap.size w w' := by
  have K := Lib.hid (checkAll_any A cap l w hR)
  have HE : Hid (isB l i = (decide ((chkAll l).2 = 0) && (decide (0 ≤ i) && decide (i < (l.length : Int))))) := Lib.hid rfl
  have hmx := Nat.le_trans hR.le hR.mx
  generalize isB l i = b at *
  generalize (chkAll l).1 = a at *
  generalize (chkAll l).2 = ce at *
  generalize l.length = N at *
  clear hR
  by_cases h1 : i < 0
  · have u1 : decide (i < 0) = true := decide_eq_true h1
    have hb : b = false := by rw [HE.out, decide_eq_false (show ¬ 0 ≤ i by omega)]; simp
    rw [hb]
    clear hb HE
    go_enter Tryd.func28, Tryd.ntmps28
    go_wp2
    go_ret
    exact ⟨rfl, Below.refl _ _⟩
  · have u1 : decide (i < 0) = false := decide_eq_false h1
    by_cases h2 : i < (N : Int)
    · have u2 : decide (i ≥ (N : Int)) = false := decide_eq_false (by omega)
      have u2' : decide ((N : Int) ≤ i) = false := decide_eq_false (by omega)
      have hb : b = (ce == 0) := by rw [HE.out, decide_eq_true (show 0 ≤ i by omega), decide_eq_true h2, Bool.and_true, Bool.and_true]; rfl
      rw [hb]
      clear hb HE
      go_enter Tryd.func28, Tryd.ntmps28
      go_wp2_with (go_at_call 37; (with_reducible refine K.out.mono ?_); rintro e w1 ⟨rfl, h⟩)
      go_ret
      exact ⟨rfl, h⟩
    · have u2 : decide (i ≥ (N : Int)) = true := decide_eq_true (by omega)
      have u2' : decide ((N : Int) ≤ i) = true := decide_eq_true (by omega)
      have hb : b = false := by rw [HE.out, decide_eq_false h2]; simp
      rw [hb]
      clear hb HE
      go_enter Tryd.func28, Tryd.ntmps28
      go_wp2
      go_ret
      exact ⟨rfl, Below.refl _ _⟩
/-- How often, also in no tick. -/
def relS (x : Ts) (v : Int) : Int := if v = 0 then 0 else oftS x v
theorem one_nums (W V : World) (a : Int) (hc : ∀ i u, V.cell? ⟨W.heap.size, i, none⟩ = some u ↔ (#[Value.int .u64 a] : Array Value)[i]? = some u) : Nums V (.slice (some ⟨W.heap.size, 0, none⟩) 1 1) [a] := by
  refine .inr ⟨⟨W.heap.size, 0, none⟩, 1, rfl, by simp, by unfold maxLen; omega, fun i hi => ?_⟩
  rw [add_none, Nat.zero_add]
  match i, hi with
  | 0, _ => exact (hc 0 _).2 rfl
theorem one_new (W : World) (a : Int) : Nums (W.alloc (.cells #[.int .u64 a] 36)) (.slice (some ⟨W.heap.size, 0, none⟩) 1 1) [a] :=
  one_nums W _ a fun i u => by rw [cell_of_row _ _ i _ _ _ (heap_alloc_new W _)]
theorem satSum_one (s n : Int) : satSum s [n] = satAdd s n := rfl
/-- The numbers of a task that is released. -/
structure Rel (x : Ts) : Prop where
  t : 1 ≤ x.t ∧ x.t ≤ 2147483647
  j : 0 ≤ x.j ∧ x.j ≤ 2147483647
theorem TsOk.rel {x : Ts} (h : TsOk x) : Rel x := ⟨⟨h.t0, h.t1⟩, h.j0, h.j1⟩
theorem rel_u {x : Ts} {w : Int} (hx : Rel x) (hw : U w) : U (oftS x w) := ceil_u (satAdd_u hw.1 hx.j.1) hx.t.1
theorem relS_u {x : Ts} {w : Int} (hx : Rel x) (hw : U w) : U (relS x w) := by
  unfold relS
  split
  · exact ⟨by decide, by decide⟩
  · exact rel_u hx hw
set_option maxRecDepth 100000 in
set_option maxHeartbeats 8000000 in
theorem rel_any (x : Ts) (v : Int) (w : World) (hx : Rel x) (hv : U v) :
    Calls Tryd.prog 45 #[tsV x, .int .u64 v] w fun e w' => e = .returned (.int .u64 (relS x v)) ∧ Below w.heap.size w w' := by
  obtain ⟨⟨t0, t1⟩, j0, j1⟩ := hx
  obtain ⟨v0, v1⟩ := hv
  have hb : Below w.heap.size w (w.alloc (.cells #[.string x.n, .int .i64 x.c, .int .i64 x.t, .int .i64 x.d, .int .i64 x.j, .int .i64 x.q, .int .i64 x.p] 35)) := (Below.refl _ _).alloc (Nat.le_refl _) _
  by_cases h0 : v = 0
  · have e : relS x v = 0 := by unfold relS; rw [if_pos h0]
    rw [e]
    subst h0
    clear e
    go_enter Tryd.func45, Tryd.ntmps45
    go_wp2
    go_ret
    exact ⟨rfl, hb⟩
  · have e : relS x v = ceilN (satSum v [x.j]) x.t := by unfold relS; rw [if_neg h0]; rfl
    rw [e]
    have q0 : (v == 0) = false := by simpa using h0
    have su := satAdd_u v0 j0
    have hw1 : IntKind.u64.wrap x.j = x.j := by rw [IntKind.wrap_u64]; omega
    have hw2 : IntKind.u64.wrap x.t = x.t := by rw [IntKind.wrap_u64]; omega
    have KS := Lib.hid (fun V u (hu : Nums V u [x.j]) => sum_nums v u [x.j] v0 v1 V hu (by
      intro n hn
      obtain rfl := List.mem_singleton.1 hn
      omega))
    have KC := Lib.hid (fun V => ceil_any (satSum v [x.j]) x.t su.1 su.2 (by omega) (by omega) V)
    have HN := Lib.hid (fun W => one_new W x.j)
    have HT := Lib.hid (TAt.new w x)
    have HB := Lib.hid hb
    generalize satSum v [x.j] = s at *
    generalize ceilN s x.t = r at *
    clear e hb h0
    go_enter Tryd.func45, Tryd.ntmps45
    go_upto_region 3 with (fail)
    obtain ⟨W0, hW0⟩ : ∃ W0, w.alloc (.cells #[.string x.n, .int .i64 x.c, .int .i64 x.t, .int .i64 x.d, .int .i64 x.j, .int .i64 x.q, .int .i64 x.p] 35) = W0 := ⟨_, rfl⟩
    rw [hW0] at HT HB
    try rw [hW0]
    have c2 := HT.out.c2
    have c4 := HT.out.c4
    have c2a := (HT.out.alloc (.cells #[.int .u64 x.j] 36)).c2
    have c4a := (HT.out.alloc (.cells #[.int .u64 x.j] 36)).c4
    have HE1 : Hid (∀ O, Below w.heap.size w (W0.alloc O)) := Lib.hid (fun O => HB.out.trans (((Below.refl W0.heap.size W0).alloc (Nat.le_refl _) O).mono (Below.size HB.out)))
    have HE2 : Hid (∀ O, w.heap.size ≤ (W0.alloc O).heap.size) := Lib.hid (fun O => (HE1.out O).size)
    clear hW0 HT HB
    go_region_law (first
      | (go_simp; go_at_call 29; (with_reducible refine (KS.out _ _ (by first | exact HN.out _ | exact (HN.out _).later (below_drew _))).mono ?_); rintro e v1 ⟨rfl, rfl⟩)
      | (go_simp; go_at_call 64; (with_reducible refine (KC.out _).mono ?_); rintro e v2 ⟨rfl, rfl⟩)
      | fail)
    all_goals
      go_wp2
      go_ret
      first
        | exact ⟨rfl, HE1.out _⟩
        | exact ⟨rfl, (HE1.out _).trans ((below_drew _).mono (HE2.out _))⟩
end Go.Proofs.YtnhddnldebdmbaaDoor
/- Contracts of package marks' functions: With, Without, Has. -/
namespace Go.Proofs.YtnhddnldebdmbaaDoor
open Go.RowKit
set_option linter.unusedVariables false

/-! ### Bits in the model's words -/
theorem i64_and_pow (n : Int) (m : Nat) (c : Int) (hc : (BitVec.ofInt 64 c).toNat = 2 ^ m - 1) (hm : m < 63) : bits .and .i64 n c = n % (2 ^ m : Nat) := by
  have key : (BitVec.ofInt 64 n &&& BitVec.ofInt 64 c).toNat = (n % ((2 ^ 64 : Nat) : Int)).toNat % 2 ^ m := by
    rw [BitVec.toNat_and, BitVec.toNat_ofInt, hc, Nat.and_two_pow_sub_one_eq_mod]
  show IntKind.i64.wrap ((BitVec.ofInt 64 n &&& BitVec.ofInt 64 c).toNat : Nat) = _
  rw [key, IntKind.wrap_i64]
  have hp : 2 ^ m < 2 ^ 63 := Nat.pow_lt_pow_right (by omega) hm
  have h0 : 0 < 2 ^ m := Nat.two_pow_pos m
  have hl : (n % ((2 ^ 64 : Nat) : Int)).toNat % 2 ^ m < 2 ^ m := Nat.mod_lt _ h0
  have hd : ((2 ^ m : Nat) : Int) ∣ ((2 ^ 64 : Nat) : Int) := Int.natCast_dvd_natCast.2 (Nat.pow_dvd_pow 2 (by omega))
  have e : ((((n % ((2 ^ 64 : Nat) : Int)).toNat % 2 ^ m : Nat) : Int)) = n % (2 ^ m : Nat) := by
    rw [Int.natCast_emod, Int.toNat_of_nonneg (Int.emod_nonneg _ (by omega)), Int.emod_emod_of_dvd _ hd]
  omega
theorem and63 (k : Nat) : bits .and .i64 (k : Int) 63 = ((k % 64 : Nat) : Int) := by
  rw [i64_and_pow _ 6 _ (by decide) (by decide)]; rfl
theorem and1023 (n : Int) : bits .and .i64 n 1023 = n % 1024 := i64_and_pow n 10 1023 (by decide) (by decide)
theorem shl1 (c : Nat) (h : c < 64) : Op.shift .shl .u64 1 .i64 (c : Int) = pure (.int .u64 ((2 ^ c : Nat) : Int)) := by
  rw [shift_shl .u64 .i64 1 (c : Int) (by omega) (by simp [IntKind.bits]; omega)]
  have hp : 2 ^ c < 2 ^ 64 := Nat.pow_lt_pow_right (by omega) h
  have e : (1 : Int) * 2 ^ (c : Int).toNat = ((2 ^ c : Nat) : Int) := by simp
  rw [e, IntKind.wrap_u64]
  generalize 2 ^ c = p at *
  have e2 : (p : Int) % 18446744073709551616 = (p : Int) := by omega
  rw [e2]
theorem shr6 (k : Nat) : Op.shift .shr .i64 (k : Int) .u64 6 = pure (.int .i64 ((k / 64 : Nat) : Int)) := by
  rw [shift_shr .i64 .u64 (k : Int) 6 (by omega) (by decide)]
  rfl

/-! ### may, bit -/
def mayB (n : Int) : Bool := decide (0 ≤ n ∧ n < 1024)
theorem may_any (n : Int) (w : World) (h0 : -9223372036854775808 ≤ n) (h1 : n ≤ 9223372036854775807) :
    Calls Tryd.prog 81 #[.int .i64 n] w fun e w' => e = .returned (.bool (mayB n)) ∧ w = w' := by
  by_cases hn : 0 ≤ n
  · by_cases hm : n < 1024
    · have e : mayB n = true := by simp [mayB, hn, hm]
      rw [e]
      clear e
      go_enter Tryd.func81, Tryd.ntmps81
      go_wp2
      go_ret
      exact ⟨rfl, rfl⟩
    · have e : mayB n = false := by simp [mayB, hn, hm]
      rw [e]
      clear e
      go_enter Tryd.func81, Tryd.ntmps81
      go_wp2
      go_ret
      exact ⟨by simp, rfl⟩
  · have e : mayB n = false := by simp [mayB, hn]
    rw [e]
    clear e
    go_enter Tryd.func81, Tryd.ntmps81
    go_wp2
    go_ret
    exact ⟨by simp, rfl⟩
theorem mayB_nat (k : Nat) (h : k < 1024) : mayB (k : Int) = true := by simp [mayB]; omega

theorem bit_any (k : Nat) (w : World) (h1 : k < 1024) :
    Calls Tryd.prog 82 #[.int .i64 (k : Int)] w fun e w' => e = .returned (.int .u64 ((2 ^ (k % 64) : Nat) : Int)) ∧ w = w' := by
  have a1 := and63 k
  have a2 := shl1 (k % 64) (by omega)
  generalize 2 ^ (k % 64) = p at *
  generalize k % 64 = c at *
  go_enter Tryd.func82, Tryd.ntmps82
  go_wp2
  go_ret
  exact ⟨rfl, rfl⟩

/-! ### With, Without -/
theorem zero_box (w : World) : Box (w.alloc (.cells #[.int .u64 0, .int .u64 0, .int .u64 0, .int .u64 0, .int .u64 0, .int .u64 0, .int .u64 0, .int .u64 0, .int .u64 0, .int .u64 0, .int .u64 0, .int .u64 0, .int .u64 0, .int .u64 0, .int .u64 0, .int .u64 0] 75)) w.heap.size noneF := by
  have h := Box.new w noneF
  rwa [cellsL_none] at h
theorem entry1 (w : World) (f : Nat → Bool) : ∃ W, (w.alloc (.cells (cellsL f).toArray 75)).alloc (.cells #[.int .u64 0, .int .u64 0, .int .u64 0, .int .u64 0, .int .u64 0, .int .u64 0, .int .u64 0, .int .u64 0, .int .u64 0, .int .u64 0, .int .u64 0, .int .u64 0, .int .u64 0, .int .u64 0, .int .u64 0, .int .u64 0] 75) = W ∧
    Box W w.heap.size f ∧ Box W (w.heap.size + 1) noneF ∧ Below w.heap.size w W := by
  have b2 := zero_box (w.alloc (.cells (cellsL f).toArray 75))
  rw [World.size_alloc] at b2
  exact ⟨_, rfl, (Box.new w f).alloc _, b2, ((Below.refl w.heap.size w).alloc (Nat.le_refl _) _).alloc (by simp) _⟩
theorem entry2 (w : World) (f g : Nat → Bool) : ∃ W, ((w.alloc (.cells (cellsL f).toArray 75)).alloc (.cells (cellsL g).toArray 75)).alloc (.cells #[.int .u64 0, .int .u64 0, .int .u64 0, .int .u64 0, .int .u64 0, .int .u64 0, .int .u64 0, .int .u64 0, .int .u64 0, .int .u64 0, .int .u64 0, .int .u64 0, .int .u64 0, .int .u64 0, .int .u64 0, .int .u64 0] 75) = W ∧
    Box W w.heap.size f ∧ Box W (w.heap.size + 1) g ∧ Box W (w.heap.size + 1 + 1) noneF ∧ Below w.heap.size w W := by
  obtain ⟨W, hW, b1, b2, hb⟩ := entry1 (w.alloc (.cells (cellsL f).toArray 75)) g
  rw [World.size_alloc] at b1 b2 hb
  refine ⟨_, hW, (Box.new w f).below hb (by omega), b1, b2, ((Below.refl w.heap.size w).alloc (Nat.le_refl _) _).trans (hb.mono (by omega))⟩

set_option maxHeartbeats 1000000 in
theorem with_any (f : Nat → Bool) (n : Int) (w : World) (h0 : -9223372036854775808 ≤ n) (h1 : n ≤ 9223372036854775807) :
    Calls Tryd.prog 76 #[setV f, .int .i64 n] w fun e w' => e = .returned (setV (ins f n)) ∧ Below w.heap.size w w' := by
  have M := Lib.hid (may_any n)
  obtain ⟨W, hW, b1, b2, hb⟩ := entry1 w f
  have HW := Lib.hid hW
  clear hW
  by_cases hn : 0 ≤ n ∧ n < 1024
  · obtain ⟨k, rfl⟩ := Int.eq_ofNat_of_zero_le hn.1
    have hk : k < 1024 := by omega
    rw [mayB_nat k hk] at M
    have B := Lib.hid (fun w => bit_any k w hk)
    go_enter Tryd.func76, Tryd.ntmps76
    go_wp2_with (go_at_call 81; refine (M.out _ h0 h1).mono ?_; rintro e w' ⟨rfl, rfl⟩)
    rw [HW.out]
    have c1 := b1.cell (k / 64) (by omega)
    have c2 := b1.frozen (k / 64)
    have a1 := shr6 k
    have hq : k / 64 < 16 := by omega
    have hx := word_le f (k / 64)
    have hp : 2 ^ (k % 64) < 18446744073709551616 := Nat.pow_lt_pow_right (a := 2) (n := 64) (by omega) (by omega)
    have a2 := u64_or_nat (word f (k / 64)) (2 ^ (k % 64)) (by omega) hp
    generalize hX : word f (k / 64) = x at *
    generalize hP : 2 ^ (k % 64) = p at *
    generalize hQ : k / 64 = q at *
    have HX := Lib.hid hX
    have HP := Lib.hid hP
    have HQ := Lib.hid hQ
    clear hX hP hQ
    generalize hV : x ||| p = v at *
    have HV := Lib.hid hV
    clear hV
    go_region_with (go_at_call 82; refine (B.out _).mono ?_; rintro e w' ⟨rfl, rfl⟩)
    all_goals
      have b3 : Box ((W.setCell ⟨w.heap.size, q, none⟩ (.int .u64 (v : Int))).drew) w.heap.size (ins f k) :=
        (b1.set q v (by rw [← HV.out, ← HX.out, ← HP.out, ← HQ.out]; exact word_ins f k) (fun j hj hne => (word_ins_other f k j (by rw [HQ.out]; exact hne)).symm)).drew
      have b4 : Box ((W.setCell ⟨w.heap.size, q, none⟩ (.int .u64 (v : Int))).drew) (w.heap.size + 1) noneF := (b2.setCell _ _ (by simp)).drew
      have hb2 : Below w.heap.size w ((W.setCell ⟨w.heap.size, q, none⟩ (.int .u64 (v : Int))).drew) := (hb.setCell (p := ⟨w.heap.size, q, none⟩) (Nat.le_refl _) _).drew
      generalize (W.setCell ⟨w.heap.size, q, none⟩ (.int .u64 (v : Int))).drew = W2 at *
      clear b1 b2 hb c1 c2
      go_wp2_with (first
        | ((with_reducible show wpList _ _ _ (⟨some 15, _, _, _, _, _⟩ :: _) _ _); refine wpList_load_mid rfl 75 _ rfl _ _ rfl _ _ b3.range Tryd.underlying75 rfl (info26 _) ?_)
        | ((with_reducible show wpList _ _ _ (⟨none, _, _, _, _, _⟩ :: _) _ _); refine wpList_store_mid rfl 75 _ _ rfl _ _ (cellsL (ins f k)).toArray rfl rfl (b4.there _) (info26' _) (cellsL_all _) ?_)
        | ((with_reducible show bodyPost _ _ _ _ _ _); exact bodyPost_ret (results_box rfl _ _ _ _ rfl (b4.setCells _)) rfl ⟨rfl, below_setCells hb2 b4 _ (by simp)⟩))
  · have e : mayB n = false := by simpa [mayB] using hn
    rw [e] at M
    clear e
    have e2 : setV (ins f n) = setV f := by rw [setV, (cellsL_ext fun i hi => word_ins_far f n i hi (by omega) : cellsL (ins f n) = cellsL f)]
    rw [e2]
    clear e2 hn
    go_enter Tryd.func76, Tryd.ntmps76
    go_wp2_with (first
      | (go_at_call 81; refine (M.out _ h0 h1).mono ?_; rintro e w' ⟨rfl, rfl⟩)
      | ((with_reducible show wpList _ _ _ (⟨some 15, _, _, _, _, _⟩ :: _) _ _); rw [HW.out]; refine wpList_load_mid rfl 75 _ rfl _ _ rfl _ _ b1.range Tryd.underlying75 rfl (info26 _) ?_)
      | ((with_reducible show wpList _ _ _ (⟨none, _, _, _, _, _⟩ :: _) _ _); refine wpList_store_mid rfl 75 _ _ rfl _ _ (cellsL f).toArray rfl rfl (b2.there _) (info26' _) (cellsL_all _) ?_)
      | ((with_reducible show bodyPost _ _ _ _ _ _); exact bodyPost_ret (results_box rfl _ _ _ _ rfl (b2.setCells _)) rfl ⟨rfl, below_setCells hb b2 _ (by simp)⟩))

end Go.Proofs.YtnhddnldebdmbaaDoor
