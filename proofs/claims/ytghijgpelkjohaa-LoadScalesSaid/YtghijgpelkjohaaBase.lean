/- Small functions: their contracts; tokens as values. -/
import Derived.Test.YtghijgpelkjohaaRows
import Derived.WalkKit
import Derived.ProofKit
import Derived.Handy
import Derived.Lib.Hide
import Derived.Deep.MidRow
import Derived.Deep.QuietTactic
import Derived.BigQuiet
import Derived.Deep.RegionHeld3
import Derived.Laws.Externs
import Derived.Test.YtghijgpelkjohaaBytes
import Derived.Test.YtghijgpelkjohaaShelf
namespace Go.Proofs.Ytghijgpelkjohaa
open Go.RowKit
set_option linter.unusedVariables false

/-- Bytes as a string. -/
def bs (l : List UInt8) : ByteArray := ⟨l.toArray⟩
theorem bs_toList (l : List UInt8) : (bs l).data.toList = l := by simp [bs]
theorem bs_size (l : List UInt8) : (bs l).size = l.length := by simp [bs, ByteArray.size]
theorem bs_of (s : ByteArray) : bs s.data.toList = s := by simp [bs]
/-- A token as a value. -/
abbrev tkV (x : Tk) : Value := .agg #[.int .i64 (x.k : Int), .int .i64 (x.at' : Int), .string (bs x.t), .int .i64 (x.n : Int)]

/-- The same word, the other way round (the quiet walk wants it so). -/
theorem same_of {P : Program} {f : FuncId} {args : Array Value} {w : World} {v : Value} (h : Calls P f args w fun e w' => e = .returned v ∧ w = w') : Calls P f args w fun e w' => e = .returned v ∧ w' = w := h.mono fun _ _ h => ⟨h.1, h.2.symm⟩
/-- A byte's number, for the walk. -/
theorem byte_nat (c : UInt8) : ∃ n : Nat, n = c.toNat ∧ n < 256 := ⟨_, rfl, c.toNat_lt⟩

end Go.Proofs.Ytghijgpelkjohaa
