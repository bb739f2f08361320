/- Small functions: their contracts; tokens as values. -/
import Derived.Test.YthfiodjhjhpiaaaRows
import Derived.WalkKit
import Derived.ProofKit
import Derived.Handy
import Derived.Lib.Hide
import Derived.Deep.MidRow
import Derived.Deep.QuietTactic
import Derived.BigQuiet
import Derived.Deep.RegionHeld3
import Derived.Laws.Externs
import Derived.Test.YthfiodjhjhpiaaaBytes
import Derived.Test.YthfiodjhjhpiaaaShelf
namespace Go.Proofs.Ythfiodjhjhpiaaa
open Go.RowKit
set_option linter.unusedVariables false

/-- Bytes as a string. -/
def bs (l : List UInt8) : ByteArray := ⟨l.toArray⟩
theorem bs_toList (l : List UInt8) : (bs l).data.toList = l := by simp [bs]
theorem bs_size (l : List UInt8) : (bs l).size = l.length := by simp [bs, ByteArray.size]
theorem bs_of (s : ByteArray) : bs s.data.toList = s := by simp [bs]
/-- A token as a value. -/
abbrev tkV (x : Tk) : Value := .agg #[.int .i64 (x.k : Int), .int .i64 (x.at' : Int), .string (bs x.t), .int .i64 (x.n : Int)]

/-- The same word, the other way round (the quiet walk wants it so). -/
theorem same_of {P : Program} {f : FuncId} {args : Array Value} {w : World} {v : Value} (h : Calls P f args w fun e w' => e = .returned v ∧ w = w') : Calls P f args w fun e w' => e = .returned v ∧ w' = w := h.mono fun _ _ h => ⟨h.1, h.2.symm⟩
/-- A byte's number, for the walk. -/
theorem byte_nat (c : UInt8) : ∃ n : Nat, n = c.toNat ∧ n < 256 := ⟨_, rfl, c.toNat_lt⟩

set_option maxHeartbeats 400000 in
theorem letter_any (c : UInt8) (w : World) : Calls Try.prog 71 #[.int .u8 (c.toNat : Int)] w fun e w' => e = .returned (.bool (ltr c)) ∧ w = w' := by
  obtain ⟨n, hn, hc⟩ := byte_nat c
  have hl : ltr c = decide ((97 ≤ n ∧ n ≤ 122) ∨ (65 ≤ n ∧ n ≤ 90) ∨ n = 95) := by rw [hn]; rfl
  rw [hl]
  rw [← hn]
  clear hl hn
  go_enter Try.func71, Try.ntmps71
  by_cases h1 : 97 ≤ n <;> by_cases h2 : n ≤ 122 <;> by_cases h3 : 65 ≤ n <;> by_cases h4 : n ≤ 90 <;> by_cases h5 : n = 95 <;> first | omega | (go_wp2; go_ret; simp [*]; try omega)

set_option maxHeartbeats 400000 in
theorem rletter_any (c : UInt8) (w : World) : Calls Try.prog 57 #[.int .u8 (c.toNat : Int)] w fun e w' => e = .returned (.bool (ltr c)) ∧ w = w' := by
  obtain ⟨n, hn, hc⟩ := byte_nat c
  have hl : ltr c = decide ((97 ≤ n ∧ n ≤ 122) ∨ (65 ≤ n ∧ n ≤ 90) ∨ n = 95) := by rw [hn]; rfl
  rw [hl]
  rw [← hn]
  clear hl hn
  go_enter Try.func57, Try.ntmps57
  by_cases h1 : 97 ≤ n <;> by_cases h2 : n ≤ 122 <;> by_cases h3 : 65 ≤ n <;> by_cases h4 : n ≤ 90 <;> by_cases h5 : n = 95 <;> first | omega | (go_wp2; go_ret; simp [*]; try omega)

set_option maxHeartbeats 400000 in
theorem digit_any (c : UInt8) (w : World) : Calls Try.prog 72 #[.int .u8 (c.toNat : Int)] w fun e w' => e = .returned (.bool (dgt c)) ∧ w = w' := by
  obtain ⟨n, hn, hc⟩ := byte_nat c
  have hl : dgt c = decide (48 ≤ n ∧ n ≤ 57) := by rw [hn]; rfl
  rw [hl]
  rw [← hn]
  clear hl hn
  go_enter Try.func72, Try.ntmps72
  by_cases h1 : 48 ≤ n <;> by_cases h2 : n ≤ 57 <;> first | omega | (go_wp2; go_ret; simp [*]; try omega)

set_option maxHeartbeats 400000 in
theorem rdigit_any (c : UInt8) (w : World) : Calls Try.prog 58 #[.int .u8 (c.toNat : Int)] w fun e w' => e = .returned (.bool (dgt c)) ∧ w = w' := by
  obtain ⟨n, hn, hc⟩ := byte_nat c
  have hl : dgt c = decide (48 ≤ n ∧ n ≤ 57) := by rw [hn]; rfl
  rw [hl]
  rw [← hn]
  clear hl hn
  go_enter Try.func58, Try.ntmps58
  by_cases h1 : 48 ≤ n <;> by_cases h2 : n ≤ 57 <;> first | omega | (go_wp2; go_ret; simp [*]; try omega)

set_option maxHeartbeats 400000 in
theorem kindOf_any (c : UInt8) (w : World) : Calls Try.prog 66 #[.int .u8 (c.toNat : Int)] w fun e w' => e = .returned (.int .i64 (kind c : Int)) ∧ w = w' := by
  obtain ⟨n, hn, hc⟩ := byte_nat c
  have L := Lib.hid (fun w => letter_any c w)
  have D := Lib.hid (fun w => digit_any c w)
  have hk : kind c = if ltr c then 1 else if dgt c then 2 else if n = 61 then 3 else if n = 10 then 4 else 0 := by rw [hn]; rfl
  rw [hk]
  rw [← hn] at L D ⊢
  clear hk hn
  generalize ltr c = a at *
  generalize dgt c = b at *
  go_enter Try.func66, Try.ntmps66
  cases a <;> cases b <;> by_cases h3 : n = 61 <;> by_cases h4 : n = 10 <;> first | omega | (
    (try subst h3)
    (try subst h4)
    go_wp2_with (first
      | (go_at_call 71; refine (L.out _).mono ?_; rintro e w' ⟨rfl, rfl⟩)
      | (go_at_call 72; refine (D.out _).mono ?_; rintro e w' ⟨rfl, rfl⟩))
    all_goals (first | (go_ret; simp [*]; try omega) | omega))

set_option maxHeartbeats 400000 in
theorem goesOn_any (k : Nat) (c : UInt8) (w : World) : Calls Try.prog 67 #[.int .i64 (k : Int), .int .u8 (c.toNat : Int)] w fun e w' => e = .returned (.bool (goes k c)) ∧ w = w' := by
  obtain ⟨n, hn, hc⟩ := byte_nat c
  have L := Lib.hid (fun w => letter_any c w)
  have D := Lib.hid (fun w => digit_any c w)
  have hk : goes k c = ((dgt c && (decide (k = 1) || decide (k = 2))) || (decide (k = 1) && (ltr c || decide (n = 46) || decide (n = 45)))) := by rw [hn]; rfl
  rw [hk]
  rw [← hn] at L D ⊢
  clear hk hn
  generalize ltr c = a at *
  generalize dgt c = b at *
  go_enter Try.func67, Try.ntmps67
  cases a <;> cases b <;> by_cases h1 : k = 1 <;> by_cases h2 : k = 2 <;> by_cases h3 : n = 46 <;> by_cases h4 : n = 45 <;> first | omega | (
    (try subst h1)
    (try subst h2)
    (try subst h3)
    (try subst h4)
    go_wp2_with (first
      | (go_at_call 71; refine (L.out _).mono ?_; rintro e w' ⟨rfl, rfl⟩)
      | (go_at_call 72; refine (D.out _).mono ?_; rintro e w' ⟨rfl, rfl⟩))
    all_goals (first | (go_ret; simp [*]; try omega) | omega))
end Go.Proofs.Ythfiodjhjhpiaaa
