/-
  No cell of these rows narrows 'for every input' (looked for: loops, veiled, ifaces, maps, wideKeys, modest, calm, conditions, laid).
  DERIVED. THE GIVEN ROWS OF THIS SEAT. 4 by the template 'for every input the law returns true; each argument reads behind the call as it read before'; 0 by the template 'total and deterministic' (their statements: YtngmaiiibinkaaaGreatTotals.lean).
  GIVEN WITH THE SEED: the statements are not yours to turn. If you find one false, say at which input.
  Laid BY PROGRAM, IN A SANDBOX (cutbox-rows.mjs): the forced cells as the released guide's own fill.sh prints them over the translation 7be93e20a85f51da… (all of the seat's roots in one cut). By AI agents, Wed Nov 11 2026. No macro, syntax, notation, axiom, sorry.
-/
import Derived.Test.YtngmaiiibinkaaaGreatChecked
import GoSem.Claim
import GoSem.ClaimJoined
import GoSem.ClaimMapViews
import Derived.JoinedTies
import Derived.KernelRfl
namespace Go.Proofs.YtngmaiiibinkaaaGreat
/- THE CELL 'sum', in the pinned program and in every row, IS THE sha256 OF THE DUMP (.gsa) THAT YtngmaiiibinkaaaGreatProg.lean LOADS. Nothing in Lean hashes anything: it is a label: what it is worth is what the hold of that sum in a sandbox is worth. -/
noncomputable def Tryz.pinned : Pinned := { name := "ytngmaiiibinkaaagreat", sum := "7be93e20a85f51da21cb589b68f435cbd8b14c0b6419999f59f97358f37d7169", checked := Tryz.checked }
namespace Rows
def none {H : Type} : Left H := { results := [], args := [] }

/-- 'cadencylaw11.TraceRuns': WHATEVER THE INPUT: true; the input reads as it did. -/
def traceRunsSpec : ChangeSpec := { name := "traceRuns", fn := fun _ => fun
  | [d1, d2, d3] => { results := [.lit (.bool true)], args := [d1, d2, d3] }
  | _ => none }
def traceRunsRow : OpenClaim := { program := "ytngmaiiibinkaaagreat", sum := "7be93e20a85f51da21cb589b68f435cbd8b14c0b6419999f59f97358f37d7169", func := "cadency/cadencylaw11.TraceRuns", spec := "traceRuns", inPlace := ["internal/bytealg.IndexByteString"], unfollowed := true, recurses := true, apart := false }
def TraceRunsSaid : Prop := traceRunsRow.holds Tryz.pinned (OpenSpec.ofChange traceRunsSpec)

/-- ITS FALSE NEIGHBOUR: 'it returns false'. Refute it at one input. -/
def traceRunsWrong : ChangeSpec := { name := "traceRuns", fn := fun _ => fun
  | [d1, d2, d3] => { results := [.lit (.bool false)], args := [d1, d2, d3] }
  | _ => none }
def TraceRunsWrongFalsely : Prop := traceRunsRow.holds Tryz.pinned (OpenSpec.ofChange traceRunsWrong)

/-- 'cadencylaw11.TraceBusy': WHATEVER THE INPUT: true; the input reads as it did. -/
def traceBusySpec : ChangeSpec := { name := "traceBusy", fn := fun _ => fun
  | [d1, d2, d3] => { results := [.lit (.bool true)], args := [d1, d2, d3] }
  | _ => none }
def traceBusyRow : OpenClaim := { program := "ytngmaiiibinkaaagreat", sum := "7be93e20a85f51da21cb589b68f435cbd8b14c0b6419999f59f97358f37d7169", func := "cadency/cadencylaw11.TraceBusy", spec := "traceBusy", inPlace := ["internal/bytealg.IndexByteString"], unfollowed := true, recurses := true, apart := false }
def TraceBusySaid : Prop := traceBusyRow.holds Tryz.pinned (OpenSpec.ofChange traceBusySpec)

/-- ITS FALSE NEIGHBOUR: 'it returns false'. Refute it at one input. -/
def traceBusyWrong : ChangeSpec := { name := "traceBusy", fn := fun _ => fun
  | [d1, d2, d3] => { results := [.lit (.bool false)], args := [d1, d2, d3] }
  | _ => none }
def TraceBusyWrongFalsely : Prop := traceBusyRow.holds Tryz.pinned (OpenSpec.ofChange traceBusyWrong)

/-- 'cadencylaw11.TraceFits': WHATEVER THE INPUT: true; the input reads as it did. -/
def traceFitsSpec : ChangeSpec := { name := "traceFits", fn := fun _ => fun
  | [d1, d2, d3] => { results := [.lit (.bool true)], args := [d1, d2, d3] }
  | _ => none }
def traceFitsRow : OpenClaim := { program := "ytngmaiiibinkaaagreat", sum := "7be93e20a85f51da21cb589b68f435cbd8b14c0b6419999f59f97358f37d7169", func := "cadency/cadencylaw11.TraceFits", spec := "traceFits", inPlace := ["internal/bytealg.IndexByteString"], unfollowed := true, recurses := true, apart := false }
def TraceFitsSaid : Prop := traceFitsRow.holds Tryz.pinned (OpenSpec.ofChange traceFitsSpec)

/-- ITS FALSE NEIGHBOUR: 'it returns false'. Refute it at one input. -/
def traceFitsWrong : ChangeSpec := { name := "traceFits", fn := fun _ => fun
  | [d1, d2, d3] => { results := [.lit (.bool false)], args := [d1, d2, d3] }
  | _ => none }
def TraceFitsWrongFalsely : Prop := traceFitsRow.holds Tryz.pinned (OpenSpec.ofChange traceFitsWrong)

/-- 'cadencylaw11.TraceCut': WHATEVER THE INPUT: true; the input reads as it did. -/
def traceCutSpec : ChangeSpec := { name := "traceCut", fn := fun _ => fun
  | [d1, d2, d3] => { results := [.lit (.bool true)], args := [d1, d2, d3] }
  | _ => none }
def traceCutRow : OpenClaim := { program := "ytngmaiiibinkaaagreat", sum := "7be93e20a85f51da21cb589b68f435cbd8b14c0b6419999f59f97358f37d7169", func := "cadency/cadencylaw11.TraceCut", spec := "traceCut", inPlace := ["internal/bytealg.IndexByteString"], unfollowed := true, recurses := true, apart := false }
def TraceCutSaid : Prop := traceCutRow.holds Tryz.pinned (OpenSpec.ofChange traceCutSpec)

/-- ITS FALSE NEIGHBOUR: 'it returns false'. Refute it at one input. -/
def traceCutWrong : ChangeSpec := { name := "traceCut", fn := fun _ => fun
  | [d1, d2, d3] => { results := [.lit (.bool false)], args := [d1, d2, d3] }
  | _ => none }
def TraceCutWrongFalsely : Prop := traceCutRow.holds Tryz.pinned (OpenSpec.ofChange traceCutWrong)

/- THE SECOND FORM. 'bulk': how many values and letters a reading holds, each counted each time it is reached (what is shared counts as often as it is met; a slice's spare places count too). A statement '..UptoSaid' is the law's where the arguments, and the package variables that the reading takes, are together of bulk at most 1048576: NARROWER than '..Said'. Prove '..Said' where nothing that the law and all that it calls make is longer than what came in: it says more and counts as full. Else prove '..UptoSaid'. A law counts once. -/
mutual
def uptoBulk {H : Type} : DataW H → Nat
  | .lit (.string bytes) => bytes.length + 1
  | .lit _ => 1
  | .nil => 1
  | .ptr d => uptoBulk d + 1
  | .slice elems spare => uptoBulkAll elems + uptoBulkAll spare + 1
  | .agg parts => uptoBulkAll parts + 1
  | .iface _ d => uptoBulk d + 1
  | .map entries => uptoBulkEntries entries + 1
  | .held _ => 1
def uptoBulkAll {H : Type} : List (DataW H) → Nat
  | [] => 0
  | d :: r => uptoBulk d + uptoBulkAll r
def uptoBulkEntries {H : Type} : List (Lit × DataW H) → Nat
  | [] => 0
  | x :: r => uptoBulkEntry x + uptoBulkEntries r
def uptoBulkEntry {H : Type} : Lit × DataW H → Nat
  | (.string bytes, d) => bytes.length + uptoBulk d + 1
  | (_, d) => uptoBulk d + 1
 end
def uptoSmall : (H : Type) → List (DataW H) → Bool := fun _ ds => decide (uptoBulkAll ds ≤ 1048576)
def OpenSpec.upto (s : _root_.Go.ChangeSpec) : _root_.Go.OpenSpec := { _root_.Go.OpenSpec.ofChange s with cond := some uptoSmall }

/-- 'cadencylaw11.TraceRuns', WHERE WHAT IT READS IS OF BULK AT MOST 1048576: true; the input reads as it did. -/
def traceRunsUptoRow : OpenClaim := { program := "ytngmaiiibinkaaagreat", sum := "7be93e20a85f51da21cb589b68f435cbd8b14c0b6419999f59f97358f37d7169", func := "cadency/cadencylaw11.TraceRuns", spec := "traceRuns", inPlace := ["internal/bytealg.IndexByteString"], unfollowed := true, recurses := true, apart := false, narrowed := true }
def TraceRunsUptoSaid : Prop := traceRunsUptoRow.holds Tryz.pinned (OpenSpec.upto traceRunsSpec)

/-- 'cadencylaw11.TraceBusy', WHERE WHAT IT READS IS OF BULK AT MOST 1048576: true; the input reads as it did. -/
def traceBusyUptoRow : OpenClaim := { program := "ytngmaiiibinkaaagreat", sum := "7be93e20a85f51da21cb589b68f435cbd8b14c0b6419999f59f97358f37d7169", func := "cadency/cadencylaw11.TraceBusy", spec := "traceBusy", inPlace := ["internal/bytealg.IndexByteString"], unfollowed := true, recurses := true, apart := false, narrowed := true }
def TraceBusyUptoSaid : Prop := traceBusyUptoRow.holds Tryz.pinned (OpenSpec.upto traceBusySpec)

/-- 'cadencylaw11.TraceFits', WHERE WHAT IT READS IS OF BULK AT MOST 1048576: true; the input reads as it did. -/
def traceFitsUptoRow : OpenClaim := { program := "ytngmaiiibinkaaagreat", sum := "7be93e20a85f51da21cb589b68f435cbd8b14c0b6419999f59f97358f37d7169", func := "cadency/cadencylaw11.TraceFits", spec := "traceFits", inPlace := ["internal/bytealg.IndexByteString"], unfollowed := true, recurses := true, apart := false, narrowed := true }
def TraceFitsUptoSaid : Prop := traceFitsUptoRow.holds Tryz.pinned (OpenSpec.upto traceFitsSpec)

/-- 'cadencylaw11.TraceCut', WHERE WHAT IT READS IS OF BULK AT MOST 1048576: true; the input reads as it did. -/
def traceCutUptoRow : OpenClaim := { program := "ytngmaiiibinkaaagreat", sum := "7be93e20a85f51da21cb589b68f435cbd8b14c0b6419999f59f97358f37d7169", func := "cadency/cadencylaw11.TraceCut", spec := "traceCut", inPlace := ["internal/bytealg.IndexByteString"], unfollowed := true, recurses := true, apart := false, narrowed := true }
def TraceCutUptoSaid : Prop := traceCutUptoRow.holds Tryz.pinned (OpenSpec.upto traceCutSpec)

end Rows
end Go.Proofs.YtngmaiiibinkaaaGreat
