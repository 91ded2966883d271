/-
  DERIVED. GIVEN WITH THE SEED: THE CARDS: each row of YthpkngipiapbpaaDoorRows.lean that lists a variable, with what it lists TIED to the program's text (the seventh form; the later family's looks); each row that meets fmt, with fmt's text TOLD by the authors' own Lean function (tested against real Go, not proved from fmt's source: count such statements apart). THE CARD IS WHAT COUNTS. Prove the row's statement (the work); the ties are given (YthpkngipiapbpaaDoorTie.lean); close each card by the builder's one call (the guide's Derived/Test/ToyasCard.lean, 'card_holds'). Laid BY PROGRAM, IN A SANDBOX (cutbox-door.mjs). By AI agents, Wed Nov 11 2026. No macro, syntax, notation, axiom, sorry.
-/
import Derived.Test.YthpkngipiapbpaaDoorRows
import GoSem.ClaimSeven
namespace Go.Proofs.YthpkngipiapbpaaDoor
namespace Rows

/-- THE TIED CARD OF 'laws.FnExactGoodStill'. -/
def fnExactGoodStillCard : Claim7 := { stood := { row := fnExactGoodStillRow, standIns := [], harness := (true, "6bd63c13c566c854a4eb47ff52aec8c8a58aff33cf0c8112e1868f54cb9a1ba6"), looks := true }, kinds := [], alts := [], laidByText := true, laidKinds := [.data], laidTests := true, laidLooks := .later }
def FnExactGoodStillCardSaid : Prop := Claim7.holds Tryd.pinned (.plain (OpenSpec.ofChange fnExactGoodStillSpec)) fnExactGoodStillCard

/-- THE TIED CARD OF 'laws.FnExactReadChunks'. -/
def fnExactReadChunksCard : Claim7 := { stood := { row := fnExactReadChunksRow, standIns := [], harness := (true, "6bd63c13c566c854a4eb47ff52aec8c8a58aff33cf0c8112e1868f54cb9a1ba6"), looks := true }, kinds := [], alts := [], laidByText := true, laidKinds := [.widerDeep], laidTests := true, laidLooks := .later }
def FnExactReadChunksCardSaid : Prop := Claim7.holds Tryd.pinned (.plain (OpenSpec.ofChange fnExactReadChunksSpec)) fnExactReadChunksCard

/-- THE TIED CARD OF 'laws.FnExactColours'. -/
def fnExactColoursCard : Claim7 := { stood := { row := fnExactColoursRow, standIns := [], harness := (true, "6bd63c13c566c854a4eb47ff52aec8c8a58aff33cf0c8112e1868f54cb9a1ba6"), looks := true }, kinds := [], alts := [], laidByText := true, laidKinds := [.data], laidTests := true, laidLooks := .later }
def FnExactColoursCardSaid : Prop := Claim7.holds Tryd.pinned (.plain (OpenSpec.ofChange fnExactColoursSpec)) fnExactColoursCard

/-- THE SECOND FORM's CARD OF 'laws.FnExactGoodStill'. -/
def fnExactGoodStillUptoCard : Claim7 := { stood := { row := fnExactGoodStillUptoRow, standIns := [], harness := (true, "6bd63c13c566c854a4eb47ff52aec8c8a58aff33cf0c8112e1868f54cb9a1ba6"), looks := true }, kinds := [], alts := [], laidByText := true, laidKinds := [.data], laidTests := true, laidLooks := .later }
def FnExactGoodStillUptoCardSaid : Prop := Claim7.holds Tryd.pinned (.plain (OpenSpec.upto fnExactGoodStillSpec)) fnExactGoodStillUptoCard

/-- THE SECOND FORM's CARD OF 'laws.FnExactReadChunks'. -/
def fnExactReadChunksUptoCard : Claim7 := { stood := { row := fnExactReadChunksUptoRow, standIns := [], harness := (true, "6bd63c13c566c854a4eb47ff52aec8c8a58aff33cf0c8112e1868f54cb9a1ba6"), looks := true }, kinds := [], alts := [], laidByText := true, laidKinds := [.widerDeep], laidTests := true, laidLooks := .later }
def FnExactReadChunksUptoCardSaid : Prop := Claim7.holds Tryd.pinned (.plain (OpenSpec.upto fnExactReadChunksSpec)) fnExactReadChunksUptoCard

/-- THE SECOND FORM's CARD OF 'laws.FnExactColours'. -/
def fnExactColoursUptoCard : Claim7 := { stood := { row := fnExactColoursUptoRow, standIns := [], harness := (true, "6bd63c13c566c854a4eb47ff52aec8c8a58aff33cf0c8112e1868f54cb9a1ba6"), looks := true }, kinds := [], alts := [], laidByText := true, laidKinds := [.data], laidTests := true, laidLooks := .later }
def FnExactColoursUptoCardSaid : Prop := Claim7.holds Tryd.pinned (.plain (OpenSpec.upto fnExactColoursSpec)) fnExactColoursUptoCard
end Rows
end Go.Proofs.YthpkngipiapbpaaDoor
