/-
  DERIVED. GIVEN WITH THE SEED: THE CARDS: each row of YtnalmingbglgfaaDoorRows.lean that lists a variable, with what it lists TIED to the program's text (the seventh form; the later family's looks); each row that meets fmt, with fmt's text TOLD by the authors' own Lean function (tested against real Go, not proved from fmt's source: count such statements apart). THE CARD IS WHAT COUNTS. Prove the row's statement (the work); the ties are given (YtnalmingbglgfaaDoorTie.lean); close each card by the builder's one call (the guide's Derived/Test/ToyasCard.lean, 'card_holds'). Laid BY PROGRAM, IN A SANDBOX (cutbox-door.mjs). By AI agents, Wed Nov 11 2026. No macro, syntax, notation, axiom, sorry.
-/
import Derived.Test.YtnalmingbglgfaaDoorRows
import GoSem.ClaimSeven
namespace Go.Proofs.YtnalmingbglgfaaDoor
namespace Rows

/-- THE TIED CARD OF 'laws.FnTurned'. -/
def fnTurnedCard : Claim7 := { stood := { row := fnTurnedRow, standIns := [], harness := (true, "7d271699bd9e9c91881ea8ce1ed8fb5dd56f88bcd4e7592e616f55e50cbd6866"), looks := false }, kinds := [], alts := [], laidByText := true, laidKinds := [.data], laidTests := true, laidLooks := .later }
def FnTurnedCardSaid : Prop := Claim7.holds Tryd.pinned (.plain (OpenSpec.ofChange fnTurnedSpec)) fnTurnedCard

/-- THE TIED CARD OF 'laws.FnExactForward'. -/
def fnExactForwardCard : Claim7 := { stood := { row := fnExactForwardRow, standIns := [], harness := (true, "7d271699bd9e9c91881ea8ce1ed8fb5dd56f88bcd4e7592e616f55e50cbd6866"), looks := false }, kinds := [], alts := [], laidByText := true, laidKinds := [.data], laidTests := true, laidLooks := .later }
def FnExactForwardCardSaid : Prop := Claim7.holds Tryd.pinned (.plain (OpenSpec.ofChange fnExactForwardSpec)) fnExactForwardCard

/-- THE TIED CARD OF 'laws.FnExactInverse'. -/
def fnExactInverseCard : Claim7 := { stood := { row := fnExactInverseRow, standIns := [], harness := (true, "7d271699bd9e9c91881ea8ce1ed8fb5dd56f88bcd4e7592e616f55e50cbd6866"), looks := false }, kinds := [], alts := [], laidByText := true, laidKinds := [.data], laidTests := true, laidLooks := .later }
def FnExactInverseCardSaid : Prop := Claim7.holds Tryd.pinned (.plain (OpenSpec.ofChange fnExactInverseSpec)) fnExactInverseCard

/-- THE SECOND FORM's CARD OF 'laws.FnTurned'. -/
def fnTurnedUptoCard : Claim7 := { stood := { row := fnTurnedUptoRow, standIns := [], harness := (true, "7d271699bd9e9c91881ea8ce1ed8fb5dd56f88bcd4e7592e616f55e50cbd6866"), looks := false }, kinds := [], alts := [], laidByText := true, laidKinds := [.data], laidTests := true, laidLooks := .later }
def FnTurnedUptoCardSaid : Prop := Claim7.holds Tryd.pinned (.plain (OpenSpec.upto fnTurnedSpec)) fnTurnedUptoCard

/-- THE SECOND FORM's CARD OF 'laws.FnExactForward'. -/
def fnExactForwardUptoCard : Claim7 := { stood := { row := fnExactForwardUptoRow, standIns := [], harness := (true, "7d271699bd9e9c91881ea8ce1ed8fb5dd56f88bcd4e7592e616f55e50cbd6866"), looks := false }, kinds := [], alts := [], laidByText := true, laidKinds := [.data], laidTests := true, laidLooks := .later }
def FnExactForwardUptoCardSaid : Prop := Claim7.holds Tryd.pinned (.plain (OpenSpec.upto fnExactForwardSpec)) fnExactForwardUptoCard

/-- THE SECOND FORM's CARD OF 'laws.FnExactInverse'. -/
def fnExactInverseUptoCard : Claim7 := { stood := { row := fnExactInverseUptoRow, standIns := [], harness := (true, "7d271699bd9e9c91881ea8ce1ed8fb5dd56f88bcd4e7592e616f55e50cbd6866"), looks := false }, kinds := [], alts := [], laidByText := true, laidKinds := [.data], laidTests := true, laidLooks := .later }
def FnExactInverseUptoCardSaid : Prop := Claim7.holds Tryd.pinned (.plain (OpenSpec.upto fnExactInverseSpec)) fnExactInverseUptoCard
end Rows
end Go.Proofs.YtnalmingbglgfaaDoor
