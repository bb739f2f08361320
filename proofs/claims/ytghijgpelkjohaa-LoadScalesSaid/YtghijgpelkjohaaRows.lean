/-
  No cell of these rows narrows 'for every input' (looked for: loops, veiled, ifaces, maps, wideKeys, modest, calm, conditions, laid).
  DERIVED. THE GIVEN ROWS OF THIS SEAT. 6 by the template 'for every input the law returns true; each argument reads behind the call as it read before'; 0 by the template 'total and deterministic' (their statements: YtghijgpelkjohaaTotals.lean).
  GIVEN WITH THE SEED: the statements are not yours to turn. If you find one false, say at which input.
  Laid BY PROGRAM, IN A SANDBOX (cutbox-rows.mjs): the forced cells as the released guide's own fill.sh prints them over the translation 6846faf913df7e12… (all of the seat's roots in one cut). By AI agents, Wed Nov 11 2026. No macro, syntax, notation, axiom, sorry.
-/
import Derived.Test.YtghijgpelkjohaaChecked
import GoSem.Claim
import GoSem.ClaimJoined
import GoSem.ClaimMapViews
import Derived.JoinedTies
import Derived.KernelRfl
namespace Go.Proofs.Ytghijgpelkjohaa
/- THE CELL 'sum', in the pinned program and in every row, IS THE sha256 OF THE DUMP (.gsa) THAT YtghijgpelkjohaaProg.lean LOADS. Nothing in Lean hashes anything: it is a label: what it is worth is what the hold of that sum in a sandbox is worth. -/
noncomputable def Try.pinned : Pinned := { name := "ytghijgpelkjohaa", sum := "6846faf913df7e125311e72541b907ad73abe7cfcc0307d9ad21bbafa6de4bc4", checked := Try.checked }
namespace Rows
def none {H : Type} : Left H := { results := [], args := [] }

/-- 'cadencylaw12.LoadSums': WHATEVER THE INPUT: true; the input reads as it did. -/
def loadSumsSpec : ChangeSpec := { name := "loadSums", fn := fun _ => fun
  | [d1, d2, d3] => { results := [.lit (.bool true)], args := [d1, d2, d3] }
  | _ => none }
def loadSumsRow : OpenClaim := { program := "ytghijgpelkjohaa", sum := "6846faf913df7e125311e72541b907ad73abe7cfcc0307d9ad21bbafa6de4bc4", func := "cadency/cadencylaw12.LoadSums", spec := "loadSums", inPlace := ["math/bits.Add64"], unfollowed := true, recurses := true, apart := false }
def LoadSumsSaid : Prop := loadSumsRow.holds Try.pinned (OpenSpec.ofChange loadSumsSpec)

/-- ITS FALSE NEIGHBOUR: 'it returns false'. Refute it at one input. -/
def loadSumsWrong : ChangeSpec := { name := "loadSums", fn := fun _ => fun
  | [d1, d2, d3] => { results := [.lit (.bool false)], args := [d1, d2, d3] }
  | _ => none }
def LoadSumsWrongFalsely : Prop := loadSumsRow.holds Try.pinned (OpenSpec.ofChange loadSumsWrong)

/-- 'cadencylaw12.LoadCompares': WHATEVER THE INPUT: true; the input reads as it did. -/
def loadComparesSpec : ChangeSpec := { name := "loadCompares", fn := fun _ => fun
  | [d1, d2, d3] => { results := [.lit (.bool true)], args := [d1, d2, d3] }
  | _ => none }
def loadComparesRow : OpenClaim := { program := "ytghijgpelkjohaa", sum := "6846faf913df7e125311e72541b907ad73abe7cfcc0307d9ad21bbafa6de4bc4", func := "cadency/cadencylaw12.LoadCompares", spec := "loadCompares", inPlace := ["math/bits.Add64"], unfollowed := true, recurses := true, apart := false }
def LoadComparesSaid : Prop := loadComparesRow.holds Try.pinned (OpenSpec.ofChange loadComparesSpec)

/-- ITS FALSE NEIGHBOUR: 'it returns false'. Refute it at one input. -/
def loadComparesWrong : ChangeSpec := { name := "loadCompares", fn := fun _ => fun
  | [d1, d2, d3] => { results := [.lit (.bool false)], args := [d1, d2, d3] }
  | _ => none }
def LoadComparesWrongFalsely : Prop := loadComparesRow.holds Try.pinned (OpenSpec.ofChange loadComparesWrong)

/-- 'cadencylaw12.LoadOrder': WHATEVER THE INPUT: true; the input reads as it did. -/
def loadOrderSpec : ChangeSpec := { name := "loadOrder", fn := fun _ => fun
  | [d1, d2] => { results := [.lit (.bool true)], args := [d1, d2] }
  | _ => none }
def loadOrderRow : OpenClaim := { program := "ytghijgpelkjohaa", sum := "6846faf913df7e125311e72541b907ad73abe7cfcc0307d9ad21bbafa6de4bc4", func := "cadency/cadencylaw12.LoadOrder", spec := "loadOrder", inPlace := ["math/bits.Add64"], unfollowed := true, recurses := true, apart := false }
def LoadOrderSaid : Prop := loadOrderRow.holds Try.pinned (OpenSpec.ofChange loadOrderSpec)

/-- ITS FALSE NEIGHBOUR: 'it returns false'. Refute it at one input. -/
def loadOrderWrong : ChangeSpec := { name := "loadOrder", fn := fun _ => fun
  | [d1, d2] => { results := [.lit (.bool false)], args := [d1, d2] }
  | _ => none }
def LoadOrderWrongFalsely : Prop := loadOrderRow.holds Try.pinned (OpenSpec.ofChange loadOrderWrong)

/-- 'cadencylaw12.LoadAdds': WHATEVER THE INPUT: true; the input reads as it did. -/
def loadAddsSpec : ChangeSpec := { name := "loadAdds", fn := fun _ => fun
  | [d1, d2] => { results := [.lit (.bool true)], args := [d1, d2] }
  | _ => none }
def loadAddsRow : OpenClaim := { program := "ytghijgpelkjohaa", sum := "6846faf913df7e125311e72541b907ad73abe7cfcc0307d9ad21bbafa6de4bc4", func := "cadency/cadencylaw12.LoadAdds", spec := "loadAdds", inPlace := ["math/bits.Add64"], unfollowed := true, recurses := true, apart := false }
def LoadAddsSaid : Prop := loadAddsRow.holds Try.pinned (OpenSpec.ofChange loadAddsSpec)

/-- ITS FALSE NEIGHBOUR: 'it returns false'. Refute it at one input. -/
def loadAddsWrong : ChangeSpec := { name := "loadAdds", fn := fun _ => fun
  | [d1, d2] => { results := [.lit (.bool false)], args := [d1, d2] }
  | _ => none }
def LoadAddsWrongFalsely : Prop := loadAddsRow.holds Try.pinned (OpenSpec.ofChange loadAddsWrong)

/-- 'cadencylaw12.LoadPeriod': WHATEVER THE INPUT: true; the input reads as it did. -/
def loadPeriodSpec : ChangeSpec := { name := "loadPeriod", fn := fun _ => fun
  | [d1, d2] => { results := [.lit (.bool true)], args := [d1, d2] }
  | _ => none }
def loadPeriodRow : OpenClaim := { program := "ytghijgpelkjohaa", sum := "6846faf913df7e125311e72541b907ad73abe7cfcc0307d9ad21bbafa6de4bc4", func := "cadency/cadencylaw12.LoadPeriod", spec := "loadPeriod", inPlace := ["math/bits.Add64"], unfollowed := true, recurses := true, apart := false }
def LoadPeriodSaid : Prop := loadPeriodRow.holds Try.pinned (OpenSpec.ofChange loadPeriodSpec)

/-- ITS FALSE NEIGHBOUR: 'it returns false'. Refute it at one input. -/
def loadPeriodWrong : ChangeSpec := { name := "loadPeriod", fn := fun _ => fun
  | [d1, d2] => { results := [.lit (.bool false)], args := [d1, d2] }
  | _ => none }
def LoadPeriodWrongFalsely : Prop := loadPeriodRow.holds Try.pinned (OpenSpec.ofChange loadPeriodWrong)

/-- 'cadencylaw12.LoadScales': WHATEVER THE INPUT: true; the input reads as it did. -/
def loadScalesSpec : ChangeSpec := { name := "loadScales", fn := fun _ => fun
  | [d1, d2, d3] => { results := [.lit (.bool true)], args := [d1, d2, d3] }
  | _ => none }
def loadScalesRow : OpenClaim := { program := "ytghijgpelkjohaa", sum := "6846faf913df7e125311e72541b907ad73abe7cfcc0307d9ad21bbafa6de4bc4", func := "cadency/cadencylaw12.LoadScales", spec := "loadScales", inPlace := ["math/bits.Add64"], unfollowed := true, recurses := true, apart := false }
def LoadScalesSaid : Prop := loadScalesRow.holds Try.pinned (OpenSpec.ofChange loadScalesSpec)

/-- ITS FALSE NEIGHBOUR: 'it returns false'. Refute it at one input. -/
def loadScalesWrong : ChangeSpec := { name := "loadScales", fn := fun _ => fun
  | [d1, d2, d3] => { results := [.lit (.bool false)], args := [d1, d2, d3] }
  | _ => none }
def LoadScalesWrongFalsely : Prop := loadScalesRow.holds Try.pinned (OpenSpec.ofChange loadScalesWrong)

/- THE SECOND FORM. 'bulk': how many values and letters a reading holds, each counted each time it is reached (what is shared counts as often as it is met; a slice's spare places count too). A statement '..UptoSaid' is the law's where the arguments, and the package variables that the reading takes, are together of bulk at most 1048576: NARROWER than '..Said'. Prove '..Said' where nothing that the law and all that it calls make is longer than what came in: it says more and counts as full. Else prove '..UptoSaid'. A law counts once. -/
mutual
def uptoBulk {H : Type} : DataW H → Nat
  | .lit (.string bytes) => bytes.length + 1
  | .lit _ => 1
  | .nil => 1
  | .ptr d => uptoBulk d + 1
  | .slice elems spare => uptoBulkAll elems + uptoBulkAll spare + 1
  | .agg parts => uptoBulkAll parts + 1
  | .iface _ d => uptoBulk d + 1
  | .map entries => uptoBulkEntries entries + 1
  | .held _ => 1
def uptoBulkAll {H : Type} : List (DataW H) → Nat
  | [] => 0
  | d :: r => uptoBulk d + uptoBulkAll r
def uptoBulkEntries {H : Type} : List (Lit × DataW H) → Nat
  | [] => 0
  | x :: r => uptoBulkEntry x + uptoBulkEntries r
def uptoBulkEntry {H : Type} : Lit × DataW H → Nat
  | (.string bytes, d) => bytes.length + uptoBulk d + 1
  | (_, d) => uptoBulk d + 1
 end
def uptoSmall : (H : Type) → List (DataW H) → Bool := fun _ ds => decide (uptoBulkAll ds ≤ 1048576)
def OpenSpec.upto (s : _root_.Go.ChangeSpec) : _root_.Go.OpenSpec := { _root_.Go.OpenSpec.ofChange s with cond := some uptoSmall }

/-- 'cadencylaw12.LoadSums', WHERE WHAT IT READS IS OF BULK AT MOST 1048576: true; the input reads as it did. -/
def loadSumsUptoRow : OpenClaim := { program := "ytghijgpelkjohaa", sum := "6846faf913df7e125311e72541b907ad73abe7cfcc0307d9ad21bbafa6de4bc4", func := "cadency/cadencylaw12.LoadSums", spec := "loadSums", inPlace := ["math/bits.Add64"], unfollowed := true, recurses := true, apart := false, narrowed := true }
def LoadSumsUptoSaid : Prop := loadSumsUptoRow.holds Try.pinned (OpenSpec.upto loadSumsSpec)

/-- 'cadencylaw12.LoadCompares', WHERE WHAT IT READS IS OF BULK AT MOST 1048576: true; the input reads as it did. -/
def loadComparesUptoRow : OpenClaim := { program := "ytghijgpelkjohaa", sum := "6846faf913df7e125311e72541b907ad73abe7cfcc0307d9ad21bbafa6de4bc4", func := "cadency/cadencylaw12.LoadCompares", spec := "loadCompares", inPlace := ["math/bits.Add64"], unfollowed := true, recurses := true, apart := false, narrowed := true }
def LoadComparesUptoSaid : Prop := loadComparesUptoRow.holds Try.pinned (OpenSpec.upto loadComparesSpec)

/-- 'cadencylaw12.LoadOrder', WHERE WHAT IT READS IS OF BULK AT MOST 1048576: true; the input reads as it did. -/
def loadOrderUptoRow : OpenClaim := { program := "ytghijgpelkjohaa", sum := "6846faf913df7e125311e72541b907ad73abe7cfcc0307d9ad21bbafa6de4bc4", func := "cadency/cadencylaw12.LoadOrder", spec := "loadOrder", inPlace := ["math/bits.Add64"], unfollowed := true, recurses := true, apart := false, narrowed := true }
def LoadOrderUptoSaid : Prop := loadOrderUptoRow.holds Try.pinned (OpenSpec.upto loadOrderSpec)

/-- 'cadencylaw12.LoadAdds', WHERE WHAT IT READS IS OF BULK AT MOST 1048576: true; the input reads as it did. -/
def loadAddsUptoRow : OpenClaim := { program := "ytghijgpelkjohaa", sum := "6846faf913df7e125311e72541b907ad73abe7cfcc0307d9ad21bbafa6de4bc4", func := "cadency/cadencylaw12.LoadAdds", spec := "loadAdds", inPlace := ["math/bits.Add64"], unfollowed := true, recurses := true, apart := false, narrowed := true }
def LoadAddsUptoSaid : Prop := loadAddsUptoRow.holds Try.pinned (OpenSpec.upto loadAddsSpec)

/-- 'cadencylaw12.LoadPeriod', WHERE WHAT IT READS IS OF BULK AT MOST 1048576: true; the input reads as it did. -/
def loadPeriodUptoRow : OpenClaim := { program := "ytghijgpelkjohaa", sum := "6846faf913df7e125311e72541b907ad73abe7cfcc0307d9ad21bbafa6de4bc4", func := "cadency/cadencylaw12.LoadPeriod", spec := "loadPeriod", inPlace := ["math/bits.Add64"], unfollowed := true, recurses := true, apart := false, narrowed := true }
def LoadPeriodUptoSaid : Prop := loadPeriodUptoRow.holds Try.pinned (OpenSpec.upto loadPeriodSpec)

/-- 'cadencylaw12.LoadScales', WHERE WHAT IT READS IS OF BULK AT MOST 1048576: true; the input reads as it did. -/
def loadScalesUptoRow : OpenClaim := { program := "ytghijgpelkjohaa", sum := "6846faf913df7e125311e72541b907ad73abe7cfcc0307d9ad21bbafa6de4bc4", func := "cadency/cadencylaw12.LoadScales", spec := "loadScales", inPlace := ["math/bits.Add64"], unfollowed := true, recurses := true, apart := false, narrowed := true }
def LoadScalesUptoSaid : Prop := loadScalesUptoRow.holds Try.pinned (OpenSpec.upto loadScalesSpec)

end Rows
end Go.Proofs.Ytghijgpelkjohaa
