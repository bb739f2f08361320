/-
  DERIVED. GIVEN WITH THE SEED: THE CARDS: each row of YtnhddnldebdmbaaDoorRows.lean that lists a variable, with what it lists TIED to the program's text (the seventh form; the later family's looks); each row that meets fmt, with fmt's text TOLD by the authors' own Lean function (tested against real Go, not proved from fmt's source: count such statements apart). THE CARD IS WHAT COUNTS. Prove the row's statement (the work); the ties are given (YtnhddnldebdmbaaDoorTie.lean); close each card by the builder's one call (the guide's Derived/Test/ToyasCard.lean, 'card_holds'). Laid BY PROGRAM, IN A SANDBOX (cutbox-door.mjs). By AI agents, Wed Nov 11 2026. No macro, syntax, notation, axiom, sorry.
-/
import Derived.Test.YtnhddnldebdmbaaDoorRows
import GoSem.ClaimSeven
namespace Go.Proofs.YtnhddnldebdmbaaDoor
namespace Rows

/-- THE TIED CARD OF 'cadencylaw14.RtaTells'. -/
def rtaTellsCard : Claim7 := { stood := { row := rtaTellsRow, standIns := [], harness := (true, "55ca0df8fbcb9ead65f10de568bff5eeacbd83f3533b0445c0775e137ac6a0ab"), looks := false }, kinds := [], alts := [], laidByText := true, laidKinds := [.data], laidTests := true, laidLooks := .later }
def RtaTellsCardSaid : Prop := Claim7.holds Tryd.pinned (.plain (OpenSpec.ofChange rtaTellsSpec)) rtaTellsCard

/-- THE TIED CARD OF 'cadencylaw14.RtaAll'. -/
def rtaAllCard : Claim7 := { stood := { row := rtaAllRow, standIns := [], harness := (true, "55ca0df8fbcb9ead65f10de568bff5eeacbd83f3533b0445c0775e137ac6a0ab"), looks := false }, kinds := [], alts := [], laidByText := true, laidKinds := [.data], laidTests := true, laidLooks := .later }
def RtaAllCardSaid : Prop := Claim7.holds Tryd.pinned (.plain (OpenSpec.ofChange rtaAllSpec)) rtaAllCard

/-- THE TIED CARD OF 'cadencylaw14.RtaLeast'. -/
def rtaLeastCard : Claim7 := { stood := { row := rtaLeastRow, standIns := [], harness := (true, "55ca0df8fbcb9ead65f10de568bff5eeacbd83f3533b0445c0775e137ac6a0ab"), looks := false }, kinds := [], alts := [], laidByText := true, laidKinds := [.data], laidTests := true, laidLooks := .later }
def RtaLeastCardSaid : Prop := Claim7.holds Tryd.pinned (.plain (OpenSpec.ofChange rtaLeastSpec)) rtaLeastCard

/-- THE TIED CARD OF 'cadencylaw14.RtaScales'. -/
def rtaScalesCard : Claim7 := { stood := { row := rtaScalesRow, standIns := [], harness := (true, "55ca0df8fbcb9ead65f10de568bff5eeacbd83f3533b0445c0775e137ac6a0ab"), looks := false }, kinds := [], alts := [], laidByText := true, laidKinds := [.data], laidTests := true, laidLooks := .later }
def RtaScalesCardSaid : Prop := Claim7.holds Tryd.pinned (.plain (OpenSpec.ofChange rtaScalesSpec)) rtaScalesCard

/-- THE TIED CARD OF 'cadencylaw14.RtaEases'. -/
def rtaEasesCard : Claim7 := { stood := { row := rtaEasesRow, standIns := [], harness := (true, "55ca0df8fbcb9ead65f10de568bff5eeacbd83f3533b0445c0775e137ac6a0ab"), looks := false }, kinds := [], alts := [], laidByText := true, laidKinds := [.data], laidTests := true, laidLooks := .later }
def RtaEasesCardSaid : Prop := Claim7.holds Tryd.pinned (.plain (OpenSpec.ofChange rtaEasesSpec)) rtaEasesCard

/-- THE SECOND FORM's CARD OF 'cadencylaw14.RtaTells'. -/
def rtaTellsUptoCard : Claim7 := { stood := { row := rtaTellsUptoRow, standIns := [], harness := (true, "55ca0df8fbcb9ead65f10de568bff5eeacbd83f3533b0445c0775e137ac6a0ab"), looks := false }, kinds := [], alts := [], laidByText := true, laidKinds := [.data], laidTests := true, laidLooks := .later }
def RtaTellsUptoCardSaid : Prop := Claim7.holds Tryd.pinned (.plain (OpenSpec.upto rtaTellsSpec)) rtaTellsUptoCard

/-- THE SECOND FORM's CARD OF 'cadencylaw14.RtaAll'. -/
def rtaAllUptoCard : Claim7 := { stood := { row := rtaAllUptoRow, standIns := [], harness := (true, "55ca0df8fbcb9ead65f10de568bff5eeacbd83f3533b0445c0775e137ac6a0ab"), looks := false }, kinds := [], alts := [], laidByText := true, laidKinds := [.data], laidTests := true, laidLooks := .later }
def RtaAllUptoCardSaid : Prop := Claim7.holds Tryd.pinned (.plain (OpenSpec.upto rtaAllSpec)) rtaAllUptoCard

/-- THE SECOND FORM's CARD OF 'cadencylaw14.RtaLeast'. -/
def rtaLeastUptoCard : Claim7 := { stood := { row := rtaLeastUptoRow, standIns := [], harness := (true, "55ca0df8fbcb9ead65f10de568bff5eeacbd83f3533b0445c0775e137ac6a0ab"), looks := false }, kinds := [], alts := [], laidByText := true, laidKinds := [.data], laidTests := true, laidLooks := .later }
def RtaLeastUptoCardSaid : Prop := Claim7.holds Tryd.pinned (.plain (OpenSpec.upto rtaLeastSpec)) rtaLeastUptoCard

/-- THE SECOND FORM's CARD OF 'cadencylaw14.RtaScales'. -/
def rtaScalesUptoCard : Claim7 := { stood := { row := rtaScalesUptoRow, standIns := [], harness := (true, "55ca0df8fbcb9ead65f10de568bff5eeacbd83f3533b0445c0775e137ac6a0ab"), looks := false }, kinds := [], alts := [], laidByText := true, laidKinds := [.data], laidTests := true, laidLooks := .later }
def RtaScalesUptoCardSaid : Prop := Claim7.holds Tryd.pinned (.plain (OpenSpec.upto rtaScalesSpec)) rtaScalesUptoCard

/-- THE SECOND FORM's CARD OF 'cadencylaw14.RtaEases'. -/
def rtaEasesUptoCard : Claim7 := { stood := { row := rtaEasesUptoRow, standIns := [], harness := (true, "55ca0df8fbcb9ead65f10de568bff5eeacbd83f3533b0445c0775e137ac6a0ab"), looks := false }, kinds := [], alts := [], laidByText := true, laidKinds := [.data], laidTests := true, laidLooks := .later }
def RtaEasesUptoCardSaid : Prop := Claim7.holds Tryd.pinned (.plain (OpenSpec.upto rtaEasesSpec)) rtaEasesUptoCard
end Rows
end Go.Proofs.YtnhddnldebdmbaaDoor
