/-
  DERIVED. GIVEN WITH THE SEED: THE CARDS: each row of YtnhddnldebdmbaaGreatDoorRows.lean that lists a variable, with what it lists TIED to the program's text (the seventh form; the later family's looks); each row that meets fmt, with fmt's text TOLD by the authors' own Lean function (tested against real Go, not proved from fmt's source: count such statements apart). THE CARD IS WHAT COUNTS. Prove the row's statement (the work); the ties are given (YtnhddnldebdmbaaGreatDoorTie.lean); close each card by the builder's one call (the guide's Derived/Test/ToyasCard.lean, 'card_holds'). Laid BY PROGRAM, IN A SANDBOX (cutbox-door.mjs). By AI agents, Wed Nov 11 2026. No macro, syntax, notation, axiom, sorry.
-/
import Derived.Test.YtnhddnldebdmbaaGreatDoorRows
import GoSem.ClaimSeven
namespace Go.Proofs.YtnhddnldebdmbaaGreatDoor
namespace Rows

/-- THE TIED CARD OF 'cadencylaw14.RtaSound'. -/
def rtaSoundCard : Claim7 := { stood := { row := rtaSoundRow, standIns := [], harness := (true, "1b57cd6924c669c268c7585c5f85c505174387104d0d618abc43291618737542"), looks := false }, kinds := [], alts := [], laidByText := true, laidKinds := [.data], laidTests := true, laidLooks := .later }
def RtaSoundCardSaid : Prop := Claim7.holds Tryz.pinned (.plain (OpenSpec.ofChange rtaSoundSpec)) rtaSoundCard

/-- THE SECOND FORM's CARD OF 'cadencylaw14.RtaSound'. -/
def rtaSoundUptoCard : Claim7 := { stood := { row := rtaSoundUptoRow, standIns := [], harness := (true, "1b57cd6924c669c268c7585c5f85c505174387104d0d618abc43291618737542"), looks := false }, kinds := [], alts := [], laidByText := true, laidKinds := [.data], laidTests := true, laidLooks := .later }
def RtaSoundUptoCardSaid : Prop := Claim7.holds Tryz.pinned (.plain (OpenSpec.upto rtaSoundSpec)) rtaSoundUptoCard
end Rows
end Go.Proofs.YtnhddnldebdmbaaGreatDoor
