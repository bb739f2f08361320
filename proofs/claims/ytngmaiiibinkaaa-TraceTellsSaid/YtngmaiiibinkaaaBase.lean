/- Small functions: their contracts; tokens as values. -/
import Derived.Test.YtngmaiiibinkaaaRows
import Derived.WalkKit
import Derived.ProofKit
import Derived.Handy
import Derived.Lib.Hide
import Derived.Deep.MidRow
import Derived.Deep.QuietTactic
import Derived.BigQuiet
import Derived.Deep.RegionHeld3
import Derived.Laws.Externs
import Derived.Test.YtngmaiiibinkaaaBytes
import Derived.Test.YtngmaiiibinkaaaShelf
namespace Go.Proofs.Ytngmaiiibinkaaa
open Go.RowKit
set_option linter.unusedVariables false

/-- Bytes as a string. -/
def bs (l : List UInt8) : ByteArray := ⟨l.toArray⟩
theorem bs_toList (l : List UInt8) : (bs l).data.toList = l := by simp [bs]
theorem bs_size (l : List UInt8) : (bs l).size = l.length := by simp [bs, ByteArray.size]
theorem bs_of (s : ByteArray) : bs s.data.toList = s := by simp [bs]
/-- A token as a value. -/
abbrev tkV (x : Tk) : Value := .agg #[.int .i64 (x.k : Int), .int .i64 (x.at' : Int), .string (bs x.t), .int .i64 (x.n : Int)]

/-- The same word, the other way round (the quiet walk wants it so). -/
theorem same_of {P : Program} {f : FuncId} {args : Array Value} {w : World} {v : Value} (h : Calls P f args w fun e w' => e = .returned v ∧ w = w') : Calls P f args w fun e w' => e = .returned v ∧ w' = w := h.mono fun _ _ h => ⟨h.1, h.2.symm⟩
/-- A byte's number, for the walk. -/
theorem byte_nat (c : UInt8) : ∃ n : Nat, n = c.toNat ∧ n < 256 := ⟨_, rfl, c.toNat_lt⟩

set_option maxHeartbeats 400000 in
theorem rletter_any (c : UInt8) (w : World) : Calls Try.prog 45 #[.int .u8 (c.toNat : Int)] w fun e w' => e = .returned (.bool (ltr c)) ∧ w = w' := by
  obtain ⟨n, hn, hc⟩ := byte_nat c
  have hl : ltr c = decide ((97 ≤ n ∧ n ≤ 122) ∨ (65 ≤ n ∧ n ≤ 90) ∨ n = 95) := by rw [hn]; rfl
  rw [hl]
  rw [← hn]
  clear hl hn
  go_enter Try.func45, Try.ntmps45
  by_cases h1 : 97 ≤ n <;> by_cases h2 : n ≤ 122 <;> by_cases h3 : 65 ≤ n <;> by_cases h4 : n ≤ 90 <;> by_cases h5 : n = 95 <;> first | omega | (go_wp2; go_ret; simp [*]; try omega)

set_option maxHeartbeats 400000 in
theorem rdigit_any (c : UInt8) (w : World) : Calls Try.prog 46 #[.int .u8 (c.toNat : Int)] w fun e w' => e = .returned (.bool (dgt c)) ∧ w = w' := by
  obtain ⟨n, hn, hc⟩ := byte_nat c
  have hl : dgt c = decide (48 ≤ n ∧ n ≤ 57) := by rw [hn]; rfl
  rw [hl]
  rw [← hn]
  clear hl hn
  go_enter Try.func46, Try.ntmps46
  by_cases h1 : 48 ≤ n <;> by_cases h2 : n ≤ 57 <;> first | omega | (go_wp2; go_ret; simp [*]; try omega)

end Go.Proofs.Ytngmaiiibinkaaa
