/-
  DERIVED. GIVEN WITH THE SEED: THE CARDS: each row of YthfkbbiaemmndaaGreatDoorRows.lean that lists a variable, with what it lists TIED to the program's text (the seventh form; the later family's looks); each row that meets fmt, with fmt's text TOLD by the authors' own Lean function (tested against real Go, not proved from fmt's source: count such statements apart). THE CARD IS WHAT COUNTS. Prove the row's statement (the work); the ties are given (YthfkbbiaemmndaaGreatDoorTie.lean); close each card by the builder's one call (the guide's Derived/Test/ToyasCard.lean, 'card_holds'). Laid BY PROGRAM, IN A SANDBOX (cutbox-door.mjs). By AI agents, Wed Nov 11 2026. No macro, syntax, notation, axiom, sorry.
-/
import Derived.Test.YthfkbbiaemmndaaGreatDoorRows
import GoSem.ClaimSeven
namespace Go.Proofs.YthfkbbiaemmndaaGreatDoor
namespace Rows

/-- THE TIED CARD OF 'cadencylaw16.SimTells'. -/
def simTellsCard : Claim7 := { stood := { row := simTellsRow, standIns := [], harness := (true, "bf7989e7392c9051a1fd289a4d1a5ccf18ba79e8cdc14fe4847b7e559fc0f246"), looks := false }, kinds := [], alts := [], laidByText := true, laidKinds := [.data], laidTests := true, laidLooks := .later }
def SimTellsCardSaid : Prop := Claim7.holds Tryz.pinned (.plain (OpenSpec.ofChange simTellsSpec)) simTellsCard

/-- THE TIED CARD OF 'cadencylaw16.SimSame'. -/
def simSameCard : Claim7 := { stood := { row := simSameRow, standIns := [], harness := (true, "bf7989e7392c9051a1fd289a4d1a5ccf18ba79e8cdc14fe4847b7e559fc0f246"), looks := false }, kinds := [], alts := [], laidByText := true, laidKinds := [.data], laidTests := true, laidLooks := .later }
def SimSameCardSaid : Prop := Claim7.holds Tryz.pinned (.plain (OpenSpec.ofChange simSameSpec)) simSameCard

/-- THE TIED CARD OF 'cadencylaw16.SimBelow'. -/
def simBelowCard : Claim7 := { stood := { row := simBelowRow, standIns := [], harness := (true, "bf7989e7392c9051a1fd289a4d1a5ccf18ba79e8cdc14fe4847b7e559fc0f246"), looks := false }, kinds := [], alts := [], laidByText := true, laidKinds := [.data], laidTests := true, laidLooks := .later }
def SimBelowCardSaid : Prop := Claim7.holds Tryz.pinned (.plain (OpenSpec.ofChange simBelowSpec)) simBelowCard

/-- THE TIED CARD OF 'cadencylaw16.SimLate'. -/
def simLateCard : Claim7 := { stood := { row := simLateRow, standIns := [], harness := (true, "bf7989e7392c9051a1fd289a4d1a5ccf18ba79e8cdc14fe4847b7e559fc0f246"), looks := false }, kinds := [], alts := [], laidByText := true, laidKinds := [.data], laidTests := true, laidLooks := .later }
def SimLateCardSaid : Prop := Claim7.holds Tryz.pinned (.plain (OpenSpec.ofChange simLateSpec)) simLateCard

/-- THE SECOND FORM's CARD OF 'cadencylaw16.SimTells'. -/
def simTellsUptoCard : Claim7 := { stood := { row := simTellsUptoRow, standIns := [], harness := (true, "bf7989e7392c9051a1fd289a4d1a5ccf18ba79e8cdc14fe4847b7e559fc0f246"), looks := false }, kinds := [], alts := [], laidByText := true, laidKinds := [.data], laidTests := true, laidLooks := .later }
def SimTellsUptoCardSaid : Prop := Claim7.holds Tryz.pinned (.plain (OpenSpec.upto simTellsSpec)) simTellsUptoCard

/-- THE SECOND FORM's CARD OF 'cadencylaw16.SimSame'. -/
def simSameUptoCard : Claim7 := { stood := { row := simSameUptoRow, standIns := [], harness := (true, "bf7989e7392c9051a1fd289a4d1a5ccf18ba79e8cdc14fe4847b7e559fc0f246"), looks := false }, kinds := [], alts := [], laidByText := true, laidKinds := [.data], laidTests := true, laidLooks := .later }
def SimSameUptoCardSaid : Prop := Claim7.holds Tryz.pinned (.plain (OpenSpec.upto simSameSpec)) simSameUptoCard

/-- THE SECOND FORM's CARD OF 'cadencylaw16.SimBelow'. -/
def simBelowUptoCard : Claim7 := { stood := { row := simBelowUptoRow, standIns := [], harness := (true, "bf7989e7392c9051a1fd289a4d1a5ccf18ba79e8cdc14fe4847b7e559fc0f246"), looks := false }, kinds := [], alts := [], laidByText := true, laidKinds := [.data], laidTests := true, laidLooks := .later }
def SimBelowUptoCardSaid : Prop := Claim7.holds Tryz.pinned (.plain (OpenSpec.upto simBelowSpec)) simBelowUptoCard

/-- THE SECOND FORM's CARD OF 'cadencylaw16.SimLate'. -/
def simLateUptoCard : Claim7 := { stood := { row := simLateUptoRow, standIns := [], harness := (true, "bf7989e7392c9051a1fd289a4d1a5ccf18ba79e8cdc14fe4847b7e559fc0f246"), looks := false }, kinds := [], alts := [], laidByText := true, laidKinds := [.data], laidTests := true, laidLooks := .later }
def SimLateUptoCardSaid : Prop := Claim7.holds Tryz.pinned (.plain (OpenSpec.upto simLateSpec)) simLateUptoCard
end Rows
end Go.Proofs.YthfkbbiaemmndaaGreatDoor
