/-
  DERIVED. GIVEN WITH THE SEED: THE CARDS: each row of YthkppcncajmniaaDoorRows.lean that lists a variable, with what it lists TIED to the program's text (the seventh form; the later family's looks); each row that meets fmt, with fmt's text TOLD by the authors' own Lean function (tested against real Go, not proved from fmt's source: count such statements apart). THE CARD IS WHAT COUNTS. Prove the row's statement (the work); the ties are given (YthkppcncajmniaaDoorTie.lean); close each card by the builder's one call (the guide's Derived/Test/ToyasCard.lean, 'card_holds'). Laid BY PROGRAM, IN A SANDBOX (cutbox-door.mjs). By AI agents, Wed Nov 11 2026. No macro, syntax, notation, axiom, sorry.
-/
import Derived.Test.YthkppcncajmniaaDoorRows
import GoSem.ClaimSeven
namespace Go.Proofs.YthkppcncajmniaaDoor
namespace Rows

/-- THE TIED CARD OF 'laws.FnExactGoodStill'. -/
def fnExactGoodStillCard : Claim7 := { stood := { row := fnExactGoodStillRow, standIns := [], harness := (true, "e656a776d18fb83b6da8a2ecde41ab096f746b3ab26d244d7d6b9a88e4b7da39"), looks := false }, kinds := [], alts := [], laidByText := true, laidKinds := [.data], laidTests := true, laidLooks := .later }
def FnExactGoodStillCardSaid : Prop := Claim7.holds Tryd.pinned (.plain (OpenSpec.ofChange fnExactGoodStillSpec)) fnExactGoodStillCard

/-- THE TIED CARD OF 'laws.FnExactColours'. -/
def fnExactColoursCard : Claim7 := { stood := { row := fnExactColoursRow, standIns := [], harness := (true, "e656a776d18fb83b6da8a2ecde41ab096f746b3ab26d244d7d6b9a88e4b7da39"), looks := false }, kinds := [], alts := [], laidByText := true, laidKinds := [.data], laidTests := true, laidLooks := .later }
def FnExactColoursCardSaid : Prop := Claim7.holds Tryd.pinned (.plain (OpenSpec.ofChange fnExactColoursSpec)) fnExactColoursCard

/-- THE SECOND FORM's CARD OF 'laws.FnExactGoodStill'. -/
def fnExactGoodStillUptoCard : Claim7 := { stood := { row := fnExactGoodStillUptoRow, standIns := [], harness := (true, "e656a776d18fb83b6da8a2ecde41ab096f746b3ab26d244d7d6b9a88e4b7da39"), looks := false }, kinds := [], alts := [], laidByText := true, laidKinds := [.data], laidTests := true, laidLooks := .later }
def FnExactGoodStillUptoCardSaid : Prop := Claim7.holds Tryd.pinned (.plain (OpenSpec.upto fnExactGoodStillSpec)) fnExactGoodStillUptoCard

/-- THE SECOND FORM's CARD OF 'laws.FnExactColours'. -/
def fnExactColoursUptoCard : Claim7 := { stood := { row := fnExactColoursUptoRow, standIns := [], harness := (true, "e656a776d18fb83b6da8a2ecde41ab096f746b3ab26d244d7d6b9a88e4b7da39"), looks := false }, kinds := [], alts := [], laidByText := true, laidKinds := [.data], laidTests := true, laidLooks := .later }
def FnExactColoursUptoCardSaid : Prop := Claim7.holds Tryd.pinned (.plain (OpenSpec.upto fnExactColoursSpec)) fnExactColoursUptoCard
end Rows
end Go.Proofs.YthkppcncajmniaaDoor
