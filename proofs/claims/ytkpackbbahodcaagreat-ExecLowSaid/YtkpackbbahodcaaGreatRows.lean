/-
  No cell of these rows narrows 'for every input' (looked for: loops, veiled, ifaces, maps, wideKeys, modest, calm, conditions, laid).
  DERIVED. THE GIVEN ROWS OF THIS SEAT. 9 by the template 'for every input the law returns true; each argument reads behind the call as it read before'; 0 by the template 'total and deterministic' (their statements: YtkpackbbahodcaaGreatTotals.lean).
  GIVEN WITH THE SEED: the statements are not yours to turn. If you find one false, say at which input.
  Laid BY PROGRAM, IN A SANDBOX (cutbox-rows.mjs): the forced cells as the released guide's own fill.sh prints them over the translation 8b159f9afa63974b… (all of the seat's roots in one cut). By AI agents, Wed Nov 11 2026. No macro, syntax, notation, axiom, sorry.
-/
import Derived.Test.YtkpackbbahodcaaGreatChecked
import GoSem.Claim
import GoSem.ClaimJoined
import GoSem.ClaimMapViews
import Derived.JoinedTies
import Derived.KernelRfl
namespace Go.Proofs.YtkpackbbahodcaaGreat
/- THE CELL 'sum', in the pinned program and in every row, IS THE sha256 OF THE DUMP (.gsa) THAT YtkpackbbahodcaaGreatProg.lean LOADS. Nothing in Lean hashes anything: it is a label: what it is worth is what the hold of that sum in a sandbox is worth. -/
noncomputable def Tryz.pinned : Pinned := { name := "ytkpackbbahodcaagreat", sum := "8b159f9afa63974b16f5457b220812e5bcb6084c4305b2d2c2a3aa4e81c4d8c1", checked := Tryz.checked }
namespace Rows
def none {H : Type} : Left H := { results := [], args := [] }

/-- 'cadencylaw10.ExecRuns': WHATEVER THE INPUT: true; the input reads as it did. -/
def execRunsSpec : ChangeSpec := { name := "execRuns", fn := fun _ => fun
  | [d1, d2, d3] => { results := [.lit (.bool true)], args := [d1, d2, d3] }
  | _ => none }
def execRunsRow : OpenClaim := { program := "ytkpackbbahodcaagreat", sum := "8b159f9afa63974b16f5457b220812e5bcb6084c4305b2d2c2a3aa4e81c4d8c1", func := "cadency/cadencylaw10.ExecRuns", spec := "execRuns", inPlace := ["internal/bytealg.IndexByteString"], unfollowed := true, recurses := true, apart := false }
def ExecRunsSaid : Prop := execRunsRow.holds Tryz.pinned (OpenSpec.ofChange execRunsSpec)

/-- ITS FALSE NEIGHBOUR: 'it returns false'. Refute it at one input. -/
def execRunsWrong : ChangeSpec := { name := "execRuns", fn := fun _ => fun
  | [d1, d2, d3] => { results := [.lit (.bool false)], args := [d1, d2, d3] }
  | _ => none }
def ExecRunsWrongFalsely : Prop := execRunsRow.holds Tryz.pinned (OpenSpec.ofChange execRunsWrong)

/-- 'cadencylaw10.ExecUntil': WHATEVER THE INPUT: true; the input reads as it did. -/
def execUntilSpec : ChangeSpec := { name := "execUntil", fn := fun _ => fun
  | [d1, d2, d3] => { results := [.lit (.bool true)], args := [d1, d2, d3] }
  | _ => none }
def execUntilRow : OpenClaim := { program := "ytkpackbbahodcaagreat", sum := "8b159f9afa63974b16f5457b220812e5bcb6084c4305b2d2c2a3aa4e81c4d8c1", func := "cadency/cadencylaw10.ExecUntil", spec := "execUntil", inPlace := ["internal/bytealg.IndexByteString"], unfollowed := true, recurses := true, apart := false }
def ExecUntilSaid : Prop := execUntilRow.holds Tryz.pinned (OpenSpec.ofChange execUntilSpec)

/-- ITS FALSE NEIGHBOUR: 'it returns false'. Refute it at one input. -/
def execUntilWrong : ChangeSpec := { name := "execUntil", fn := fun _ => fun
  | [d1, d2, d3] => { results := [.lit (.bool false)], args := [d1, d2, d3] }
  | _ => none }
def ExecUntilWrongFalsely : Prop := execUntilRow.holds Tryz.pinned (OpenSpec.ofChange execUntilWrong)

/-- 'cadencylaw10.ExecLegal': WHATEVER THE INPUT: true; the input reads as it did. -/
def execLegalSpec : ChangeSpec := { name := "execLegal", fn := fun _ => fun
  | [d1, d2, d3] => { results := [.lit (.bool true)], args := [d1, d2, d3] }
  | _ => none }
def execLegalRow : OpenClaim := { program := "ytkpackbbahodcaagreat", sum := "8b159f9afa63974b16f5457b220812e5bcb6084c4305b2d2c2a3aa4e81c4d8c1", func := "cadency/cadencylaw10.ExecLegal", spec := "execLegal", inPlace := ["internal/bytealg.IndexByteString"], unfollowed := true, recurses := true, apart := false }
def ExecLegalSaid : Prop := execLegalRow.holds Tryz.pinned (OpenSpec.ofChange execLegalSpec)

/-- ITS FALSE NEIGHBOUR: 'it returns false'. Refute it at one input. -/
def execLegalWrong : ChangeSpec := { name := "execLegal", fn := fun _ => fun
  | [d1, d2, d3] => { results := [.lit (.bool false)], args := [d1, d2, d3] }
  | _ => none }
def ExecLegalWrongFalsely : Prop := execLegalRow.holds Tryz.pinned (OpenSpec.ofChange execLegalWrong)

/-- 'cadencylaw10.ExecWorks': WHATEVER THE INPUT: true; the input reads as it did. -/
def execWorksSpec : ChangeSpec := { name := "execWorks", fn := fun _ => fun
  | [d1, d2, d3] => { results := [.lit (.bool true)], args := [d1, d2, d3] }
  | _ => none }
def execWorksRow : OpenClaim := { program := "ytkpackbbahodcaagreat", sum := "8b159f9afa63974b16f5457b220812e5bcb6084c4305b2d2c2a3aa4e81c4d8c1", func := "cadency/cadencylaw10.ExecWorks", spec := "execWorks", inPlace := ["internal/bytealg.IndexByteString"], unfollowed := true, recurses := true, apart := false }
def ExecWorksSaid : Prop := execWorksRow.holds Tryz.pinned (OpenSpec.ofChange execWorksSpec)

/-- ITS FALSE NEIGHBOUR: 'it returns false'. Refute it at one input. -/
def execWorksWrong : ChangeSpec := { name := "execWorks", fn := fun _ => fun
  | [d1, d2, d3] => { results := [.lit (.bool false)], args := [d1, d2, d3] }
  | _ => none }
def ExecWorksWrongFalsely : Prop := execWorksRow.holds Tryz.pinned (OpenSpec.ofChange execWorksWrong)

/-- 'cadencylaw10.ExecUrgent': WHATEVER THE INPUT: true; the input reads as it did. -/
def execUrgentSpec : ChangeSpec := { name := "execUrgent", fn := fun _ => fun
  | [d1, d2, d3] => { results := [.lit (.bool true)], args := [d1, d2, d3] }
  | _ => none }
def execUrgentRow : OpenClaim := { program := "ytkpackbbahodcaagreat", sum := "8b159f9afa63974b16f5457b220812e5bcb6084c4305b2d2c2a3aa4e81c4d8c1", func := "cadency/cadencylaw10.ExecUrgent", spec := "execUrgent", inPlace := ["internal/bytealg.IndexByteString"], unfollowed := true, recurses := true, apart := false }
def ExecUrgentSaid : Prop := execUrgentRow.holds Tryz.pinned (OpenSpec.ofChange execUrgentSpec)

/-- ITS FALSE NEIGHBOUR: 'it returns false'. Refute it at one input. -/
def execUrgentWrong : ChangeSpec := { name := "execUrgent", fn := fun _ => fun
  | [d1, d2, d3] => { results := [.lit (.bool false)], args := [d1, d2, d3] }
  | _ => none }
def ExecUrgentWrongFalsely : Prop := execUrgentRow.holds Tryz.pinned (OpenSpec.ofChange execUrgentWrong)

/-- 'cadencylaw10.ExecScales': WHATEVER THE INPUT: true; the input reads as it did. -/
def execScalesSpec : ChangeSpec := { name := "execScales", fn := fun _ => fun
  | [d1, d2, d3] => { results := [.lit (.bool true)], args := [d1, d2, d3] }
  | _ => none }
def execScalesRow : OpenClaim := { program := "ytkpackbbahodcaagreat", sum := "8b159f9afa63974b16f5457b220812e5bcb6084c4305b2d2c2a3aa4e81c4d8c1", func := "cadency/cadencylaw10.ExecScales", spec := "execScales", inPlace := ["internal/bytealg.IndexByteString"], unfollowed := true, recurses := true, apart := false }
def ExecScalesSaid : Prop := execScalesRow.holds Tryz.pinned (OpenSpec.ofChange execScalesSpec)

/-- ITS FALSE NEIGHBOUR: 'it returns false'. Refute it at one input. -/
def execScalesWrong : ChangeSpec := { name := "execScales", fn := fun _ => fun
  | [d1, d2, d3] => { results := [.lit (.bool false)], args := [d1, d2, d3] }
  | _ => none }
def ExecScalesWrongFalsely : Prop := execScalesRow.holds Tryz.pinned (OpenSpec.ofChange execScalesWrong)

/-- 'cadencylaw10.ExecEnds': WHATEVER THE INPUT: true; the input reads as it did. -/
def execEndsSpec : ChangeSpec := { name := "execEnds", fn := fun _ => fun
  | [d1, d2, d3] => { results := [.lit (.bool true)], args := [d1, d2, d3] }
  | _ => none }
def execEndsRow : OpenClaim := { program := "ytkpackbbahodcaagreat", sum := "8b159f9afa63974b16f5457b220812e5bcb6084c4305b2d2c2a3aa4e81c4d8c1", func := "cadency/cadencylaw10.ExecEnds", spec := "execEnds", inPlace := ["internal/bytealg.IndexByteString"], unfollowed := true, recurses := true, apart := false }
def ExecEndsSaid : Prop := execEndsRow.holds Tryz.pinned (OpenSpec.ofChange execEndsSpec)

/-- ITS FALSE NEIGHBOUR: 'it returns false'. Refute it at one input. -/
def execEndsWrong : ChangeSpec := { name := "execEnds", fn := fun _ => fun
  | [d1, d2, d3] => { results := [.lit (.bool false)], args := [d1, d2, d3] }
  | _ => none }
def ExecEndsWrongFalsely : Prop := execEndsRow.holds Tryz.pinned (OpenSpec.ofChange execEndsWrong)

/-- 'cadencylaw10.ExecShifts': WHATEVER THE INPUT: true; the input reads as it did. -/
def execShiftsSpec : ChangeSpec := { name := "execShifts", fn := fun _ => fun
  | [d1, d2, d3] => { results := [.lit (.bool true)], args := [d1, d2, d3] }
  | _ => none }
def execShiftsRow : OpenClaim := { program := "ytkpackbbahodcaagreat", sum := "8b159f9afa63974b16f5457b220812e5bcb6084c4305b2d2c2a3aa4e81c4d8c1", func := "cadency/cadencylaw10.ExecShifts", spec := "execShifts", inPlace := ["internal/bytealg.IndexByteString"], unfollowed := true, recurses := true, apart := false }
def ExecShiftsSaid : Prop := execShiftsRow.holds Tryz.pinned (OpenSpec.ofChange execShiftsSpec)

/-- ITS FALSE NEIGHBOUR: 'it returns false'. Refute it at one input. -/
def execShiftsWrong : ChangeSpec := { name := "execShifts", fn := fun _ => fun
  | [d1, d2, d3] => { results := [.lit (.bool false)], args := [d1, d2, d3] }
  | _ => none }
def ExecShiftsWrongFalsely : Prop := execShiftsRow.holds Tryz.pinned (OpenSpec.ofChange execShiftsWrong)

/-- 'cadencylaw10.ExecLow': WHATEVER THE INPUT: true; the input reads as it did. -/
def execLowSpec : ChangeSpec := { name := "execLow", fn := fun _ => fun
  | [d1, d2, d3] => { results := [.lit (.bool true)], args := [d1, d2, d3] }
  | _ => none }
def execLowRow : OpenClaim := { program := "ytkpackbbahodcaagreat", sum := "8b159f9afa63974b16f5457b220812e5bcb6084c4305b2d2c2a3aa4e81c4d8c1", func := "cadency/cadencylaw10.ExecLow", spec := "execLow", inPlace := ["internal/bytealg.IndexByteString"], unfollowed := true, recurses := true, apart := false }
def ExecLowSaid : Prop := execLowRow.holds Tryz.pinned (OpenSpec.ofChange execLowSpec)

/-- ITS FALSE NEIGHBOUR: 'it returns false'. Refute it at one input. -/
def execLowWrong : ChangeSpec := { name := "execLow", fn := fun _ => fun
  | [d1, d2, d3] => { results := [.lit (.bool false)], args := [d1, d2, d3] }
  | _ => none }
def ExecLowWrongFalsely : Prop := execLowRow.holds Tryz.pinned (OpenSpec.ofChange execLowWrong)

/- THE SECOND FORM. 'bulk': how many values and letters a reading holds, each counted each time it is reached (what is shared counts as often as it is met; a slice's spare places count too). A statement '..UptoSaid' is the law's where the arguments, and the package variables that the reading takes, are together of bulk at most 1048576: NARROWER than '..Said'. Prove '..Said' where nothing that the law and all that it calls make is longer than what came in: it says more and counts as full. Else prove '..UptoSaid'. A law counts once. -/
mutual
def uptoBulk {H : Type} : DataW H → Nat
  | .lit (.string bytes) => bytes.length + 1
  | .lit _ => 1
  | .nil => 1
  | .ptr d => uptoBulk d + 1
  | .slice elems spare => uptoBulkAll elems + uptoBulkAll spare + 1
  | .agg parts => uptoBulkAll parts + 1
  | .iface _ d => uptoBulk d + 1
  | .map entries => uptoBulkEntries entries + 1
  | .held _ => 1
def uptoBulkAll {H : Type} : List (DataW H) → Nat
  | [] => 0
  | d :: r => uptoBulk d + uptoBulkAll r
def uptoBulkEntries {H : Type} : List (Lit × DataW H) → Nat
  | [] => 0
  | x :: r => uptoBulkEntry x + uptoBulkEntries r
def uptoBulkEntry {H : Type} : Lit × DataW H → Nat
  | (.string bytes, d) => bytes.length + uptoBulk d + 1
  | (_, d) => uptoBulk d + 1
 end
def uptoSmall : (H : Type) → List (DataW H) → Bool := fun _ ds => decide (uptoBulkAll ds ≤ 1048576)
def OpenSpec.upto (s : _root_.Go.ChangeSpec) : _root_.Go.OpenSpec := { _root_.Go.OpenSpec.ofChange s with cond := some uptoSmall }

/-- 'cadencylaw10.ExecRuns', WHERE WHAT IT READS IS OF BULK AT MOST 1048576: true; the input reads as it did. -/
def execRunsUptoRow : OpenClaim := { program := "ytkpackbbahodcaagreat", sum := "8b159f9afa63974b16f5457b220812e5bcb6084c4305b2d2c2a3aa4e81c4d8c1", func := "cadency/cadencylaw10.ExecRuns", spec := "execRuns", inPlace := ["internal/bytealg.IndexByteString"], unfollowed := true, recurses := true, apart := false, narrowed := true }
def ExecRunsUptoSaid : Prop := execRunsUptoRow.holds Tryz.pinned (OpenSpec.upto execRunsSpec)

/-- 'cadencylaw10.ExecUntil', WHERE WHAT IT READS IS OF BULK AT MOST 1048576: true; the input reads as it did. -/
def execUntilUptoRow : OpenClaim := { program := "ytkpackbbahodcaagreat", sum := "8b159f9afa63974b16f5457b220812e5bcb6084c4305b2d2c2a3aa4e81c4d8c1", func := "cadency/cadencylaw10.ExecUntil", spec := "execUntil", inPlace := ["internal/bytealg.IndexByteString"], unfollowed := true, recurses := true, apart := false, narrowed := true }
def ExecUntilUptoSaid : Prop := execUntilUptoRow.holds Tryz.pinned (OpenSpec.upto execUntilSpec)

/-- 'cadencylaw10.ExecLegal', WHERE WHAT IT READS IS OF BULK AT MOST 1048576: true; the input reads as it did. -/
def execLegalUptoRow : OpenClaim := { program := "ytkpackbbahodcaagreat", sum := "8b159f9afa63974b16f5457b220812e5bcb6084c4305b2d2c2a3aa4e81c4d8c1", func := "cadency/cadencylaw10.ExecLegal", spec := "execLegal", inPlace := ["internal/bytealg.IndexByteString"], unfollowed := true, recurses := true, apart := false, narrowed := true }
def ExecLegalUptoSaid : Prop := execLegalUptoRow.holds Tryz.pinned (OpenSpec.upto execLegalSpec)

/-- 'cadencylaw10.ExecWorks', WHERE WHAT IT READS IS OF BULK AT MOST 1048576: true; the input reads as it did. -/
def execWorksUptoRow : OpenClaim := { program := "ytkpackbbahodcaagreat", sum := "8b159f9afa63974b16f5457b220812e5bcb6084c4305b2d2c2a3aa4e81c4d8c1", func := "cadency/cadencylaw10.ExecWorks", spec := "execWorks", inPlace := ["internal/bytealg.IndexByteString"], unfollowed := true, recurses := true, apart := false, narrowed := true }
def ExecWorksUptoSaid : Prop := execWorksUptoRow.holds Tryz.pinned (OpenSpec.upto execWorksSpec)

/-- 'cadencylaw10.ExecUrgent', WHERE WHAT IT READS IS OF BULK AT MOST 1048576: true; the input reads as it did. -/
def execUrgentUptoRow : OpenClaim := { program := "ytkpackbbahodcaagreat", sum := "8b159f9afa63974b16f5457b220812e5bcb6084c4305b2d2c2a3aa4e81c4d8c1", func := "cadency/cadencylaw10.ExecUrgent", spec := "execUrgent", inPlace := ["internal/bytealg.IndexByteString"], unfollowed := true, recurses := true, apart := false, narrowed := true }
def ExecUrgentUptoSaid : Prop := execUrgentUptoRow.holds Tryz.pinned (OpenSpec.upto execUrgentSpec)

/-- 'cadencylaw10.ExecScales', WHERE WHAT IT READS IS OF BULK AT MOST 1048576: true; the input reads as it did. -/
def execScalesUptoRow : OpenClaim := { program := "ytkpackbbahodcaagreat", sum := "8b159f9afa63974b16f5457b220812e5bcb6084c4305b2d2c2a3aa4e81c4d8c1", func := "cadency/cadencylaw10.ExecScales", spec := "execScales", inPlace := ["internal/bytealg.IndexByteString"], unfollowed := true, recurses := true, apart := false, narrowed := true }
def ExecScalesUptoSaid : Prop := execScalesUptoRow.holds Tryz.pinned (OpenSpec.upto execScalesSpec)

/-- 'cadencylaw10.ExecEnds', WHERE WHAT IT READS IS OF BULK AT MOST 1048576: true; the input reads as it did. -/
def execEndsUptoRow : OpenClaim := { program := "ytkpackbbahodcaagreat", sum := "8b159f9afa63974b16f5457b220812e5bcb6084c4305b2d2c2a3aa4e81c4d8c1", func := "cadency/cadencylaw10.ExecEnds", spec := "execEnds", inPlace := ["internal/bytealg.IndexByteString"], unfollowed := true, recurses := true, apart := false, narrowed := true }
def ExecEndsUptoSaid : Prop := execEndsUptoRow.holds Tryz.pinned (OpenSpec.upto execEndsSpec)

/-- 'cadencylaw10.ExecShifts', WHERE WHAT IT READS IS OF BULK AT MOST 1048576: true; the input reads as it did. -/
def execShiftsUptoRow : OpenClaim := { program := "ytkpackbbahodcaagreat", sum := "8b159f9afa63974b16f5457b220812e5bcb6084c4305b2d2c2a3aa4e81c4d8c1", func := "cadency/cadencylaw10.ExecShifts", spec := "execShifts", inPlace := ["internal/bytealg.IndexByteString"], unfollowed := true, recurses := true, apart := false, narrowed := true }
def ExecShiftsUptoSaid : Prop := execShiftsUptoRow.holds Tryz.pinned (OpenSpec.upto execShiftsSpec)

/-- 'cadencylaw10.ExecLow', WHERE WHAT IT READS IS OF BULK AT MOST 1048576: true; the input reads as it did. -/
def execLowUptoRow : OpenClaim := { program := "ytkpackbbahodcaagreat", sum := "8b159f9afa63974b16f5457b220812e5bcb6084c4305b2d2c2a3aa4e81c4d8c1", func := "cadency/cadencylaw10.ExecLow", spec := "execLow", inPlace := ["internal/bytealg.IndexByteString"], unfollowed := true, recurses := true, apart := false, narrowed := true }
def ExecLowUptoSaid : Prop := execLowUptoRow.holds Tryz.pinned (OpenSpec.upto execLowSpec)

end Rows
end Go.Proofs.YtkpackbbahodcaaGreat
