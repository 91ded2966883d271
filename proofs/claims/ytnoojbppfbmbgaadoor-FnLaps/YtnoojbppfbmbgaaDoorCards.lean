/-
  DERIVED. GIVEN WITH THE SEED: THE CARDS: each row of YtnoojbppfbmbgaaDoorRows.lean that lists a variable, with what it lists TIED to the program's text (the seventh form; the later family's looks); each row that meets fmt, with fmt's text TOLD by the authors' own Lean function (tested against real Go, not proved from fmt's source: count such statements apart). THE CARD IS WHAT COUNTS. Prove the row's statement (the work); the ties are given (YtnoojbppfbmbgaaDoorTie.lean); close each card by the builder's one call (the guide's Derived/Test/ToyasCard.lean, 'card_holds'). Laid BY PROGRAM, IN A SANDBOX (cutbox-door.mjs). By AI agents, Wed Nov 11 2026. No macro, syntax, notation, axiom, sorry.
-/
import Derived.Test.YtnoojbppfbmbgaaDoorRows
import GoSem.ClaimSeven
namespace Go.Proofs.YtnoojbppfbmbgaaDoor
namespace Rows

/-- THE TIED CARD OF 'laws.FnLaps'. -/
def fnLapsCard : Claim7 := { stood := { row := fnLapsRow, standIns := [], harness := (true, "dbdb1fb69eac4733d989bb056860207fa4958c8833a444b17e6e75f6cb6343a7"), looks := false }, kinds := [], alts := [], laidByText := true, laidKinds := [.data], laidTests := true, laidLooks := .later }
def FnLapsCardSaid : Prop := Claim7.holds Tryd.pinned (.plain (OpenSpec.ofChange fnLapsSpec)) fnLapsCard

/-- THE TIED CARD OF 'laws.FnTones'. -/
def fnTonesCard : Claim7 := { stood := { row := fnTonesRow, standIns := [], harness := (true, "dbdb1fb69eac4733d989bb056860207fa4958c8833a444b17e6e75f6cb6343a7"), looks := false }, kinds := [], alts := [], laidByText := true, laidKinds := [.data], laidTests := true, laidLooks := .later }
def FnTonesCardSaid : Prop := Claim7.holds Tryd.pinned (.plain (OpenSpec.ofChange fnTonesSpec)) fnTonesCard

/-- THE TIED CARD OF 'laws.FnExactWindow'. -/
def fnExactWindowCard : Claim7 := { stood := { row := fnExactWindowRow, standIns := [], harness := (true, "dbdb1fb69eac4733d989bb056860207fa4958c8833a444b17e6e75f6cb6343a7"), looks := false }, kinds := [], alts := [], laidByText := true, laidKinds := [.data], laidTests := true, laidLooks := .later }
def FnExactWindowCardSaid : Prop := Claim7.holds Tryd.pinned (.plain (OpenSpec.ofChange fnExactWindowSpec)) fnExactWindowCard

/-- THE TIED CARD OF 'laws.FnExactLap'. -/
def fnExactLapCard : Claim7 := { stood := { row := fnExactLapRow, standIns := [], harness := (true, "dbdb1fb69eac4733d989bb056860207fa4958c8833a444b17e6e75f6cb6343a7"), looks := false }, kinds := [], alts := [], laidByText := true, laidKinds := [.data], laidTests := true, laidLooks := .later }
def FnExactLapCardSaid : Prop := Claim7.holds Tryd.pinned (.plain (OpenSpec.ofChange fnExactLapSpec)) fnExactLapCard

/-- THE TIED CARD OF 'laws.FnExactUnlap'. -/
def fnExactUnlapCard : Claim7 := { stood := { row := fnExactUnlapRow, standIns := [], harness := (true, "dbdb1fb69eac4733d989bb056860207fa4958c8833a444b17e6e75f6cb6343a7"), looks := false }, kinds := [], alts := [], laidByText := true, laidKinds := [.data], laidTests := true, laidLooks := .later }
def FnExactUnlapCardSaid : Prop := Claim7.holds Tryd.pinned (.plain (OpenSpec.ofChange fnExactUnlapSpec)) fnExactUnlapCard

/-- THE TIED CARD OF 'laws.FnExactTonesOf'. -/
def fnExactTonesOfCard : Claim7 := { stood := { row := fnExactTonesOfRow, standIns := [], harness := (true, "dbdb1fb69eac4733d989bb056860207fa4958c8833a444b17e6e75f6cb6343a7"), looks := false }, kinds := [], alts := [], laidByText := true, laidKinds := [.data], laidTests := true, laidLooks := .later }
def FnExactTonesOfCardSaid : Prop := Claim7.holds Tryd.pinned (.plain (OpenSpec.ofChange fnExactTonesOfSpec)) fnExactTonesOfCard

/-- THE TIED CARD OF 'laws.FnExactSoundOf'. -/
def fnExactSoundOfCard : Claim7 := { stood := { row := fnExactSoundOfRow, standIns := [], harness := (true, "dbdb1fb69eac4733d989bb056860207fa4958c8833a444b17e6e75f6cb6343a7"), looks := false }, kinds := [], alts := [], laidByText := true, laidKinds := [.data], laidTests := true, laidLooks := .later }
def FnExactSoundOfCardSaid : Prop := Claim7.holds Tryd.pinned (.plain (OpenSpec.ofChange fnExactSoundOfSpec)) fnExactSoundOfCard

/-- THE SECOND FORM's CARD OF 'laws.FnLaps'. -/
def fnLapsUptoCard : Claim7 := { stood := { row := fnLapsUptoRow, standIns := [], harness := (true, "dbdb1fb69eac4733d989bb056860207fa4958c8833a444b17e6e75f6cb6343a7"), looks := false }, kinds := [], alts := [], laidByText := true, laidKinds := [.data], laidTests := true, laidLooks := .later }
def FnLapsUptoCardSaid : Prop := Claim7.holds Tryd.pinned (.plain (OpenSpec.upto fnLapsSpec)) fnLapsUptoCard

/-- THE SECOND FORM's CARD OF 'laws.FnTones'. -/
def fnTonesUptoCard : Claim7 := { stood := { row := fnTonesUptoRow, standIns := [], harness := (true, "dbdb1fb69eac4733d989bb056860207fa4958c8833a444b17e6e75f6cb6343a7"), looks := false }, kinds := [], alts := [], laidByText := true, laidKinds := [.data], laidTests := true, laidLooks := .later }
def FnTonesUptoCardSaid : Prop := Claim7.holds Tryd.pinned (.plain (OpenSpec.upto fnTonesSpec)) fnTonesUptoCard

/-- THE SECOND FORM's CARD OF 'laws.FnExactWindow'. -/
def fnExactWindowUptoCard : Claim7 := { stood := { row := fnExactWindowUptoRow, standIns := [], harness := (true, "dbdb1fb69eac4733d989bb056860207fa4958c8833a444b17e6e75f6cb6343a7"), looks := false }, kinds := [], alts := [], laidByText := true, laidKinds := [.data], laidTests := true, laidLooks := .later }
def FnExactWindowUptoCardSaid : Prop := Claim7.holds Tryd.pinned (.plain (OpenSpec.upto fnExactWindowSpec)) fnExactWindowUptoCard

/-- THE SECOND FORM's CARD OF 'laws.FnExactLap'. -/
def fnExactLapUptoCard : Claim7 := { stood := { row := fnExactLapUptoRow, standIns := [], harness := (true, "dbdb1fb69eac4733d989bb056860207fa4958c8833a444b17e6e75f6cb6343a7"), looks := false }, kinds := [], alts := [], laidByText := true, laidKinds := [.data], laidTests := true, laidLooks := .later }
def FnExactLapUptoCardSaid : Prop := Claim7.holds Tryd.pinned (.plain (OpenSpec.upto fnExactLapSpec)) fnExactLapUptoCard

/-- THE SECOND FORM's CARD OF 'laws.FnExactUnlap'. -/
def fnExactUnlapUptoCard : Claim7 := { stood := { row := fnExactUnlapUptoRow, standIns := [], harness := (true, "dbdb1fb69eac4733d989bb056860207fa4958c8833a444b17e6e75f6cb6343a7"), looks := false }, kinds := [], alts := [], laidByText := true, laidKinds := [.data], laidTests := true, laidLooks := .later }
def FnExactUnlapUptoCardSaid : Prop := Claim7.holds Tryd.pinned (.plain (OpenSpec.upto fnExactUnlapSpec)) fnExactUnlapUptoCard

/-- THE SECOND FORM's CARD OF 'laws.FnExactTonesOf'. -/
def fnExactTonesOfUptoCard : Claim7 := { stood := { row := fnExactTonesOfUptoRow, standIns := [], harness := (true, "dbdb1fb69eac4733d989bb056860207fa4958c8833a444b17e6e75f6cb6343a7"), looks := false }, kinds := [], alts := [], laidByText := true, laidKinds := [.data], laidTests := true, laidLooks := .later }
def FnExactTonesOfUptoCardSaid : Prop := Claim7.holds Tryd.pinned (.plain (OpenSpec.upto fnExactTonesOfSpec)) fnExactTonesOfUptoCard

/-- THE SECOND FORM's CARD OF 'laws.FnExactSoundOf'. -/
def fnExactSoundOfUptoCard : Claim7 := { stood := { row := fnExactSoundOfUptoRow, standIns := [], harness := (true, "dbdb1fb69eac4733d989bb056860207fa4958c8833a444b17e6e75f6cb6343a7"), looks := false }, kinds := [], alts := [], laidByText := true, laidKinds := [.data], laidTests := true, laidLooks := .later }
def FnExactSoundOfUptoCardSaid : Prop := Claim7.holds Tryd.pinned (.plain (OpenSpec.upto fnExactSoundOfSpec)) fnExactSoundOfUptoCard
end Rows
end Go.Proofs.YtnoojbppfbmbgaaDoor
