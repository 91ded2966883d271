/-
  DERIVED. GIVEN WITH THE SEED: THE CARDS: each row of YtpofmcepjmbmcaaDoorRows.lean that lists a variable, with what it lists TIED to the program's text (the seventh form; the later family's looks); each row that meets fmt, with fmt's text TOLD by the authors' own Lean function (tested against real Go, not proved from fmt's source: count such statements apart). THE CARD IS WHAT COUNTS. Prove the row's statement (the work); the ties are given (YtpofmcepjmbmcaaDoorTie.lean); close each card by the builder's one call (the guide's Derived/Test/ToyasCard.lean, 'card_holds'). Laid BY PROGRAM, IN A SANDBOX (cutbox-door.mjs). By AI agents, Wed Nov 11 2026. No macro, syntax, notation, axiom, sorry.
-/
import Derived.Test.YtpofmcepjmbmcaaDoorRows
import GoSem.ClaimSeven
namespace Go.Proofs.YtpofmcepjmbmcaaDoor
namespace Rows

/-- THE TIED CARD OF 'laws.FnMoved'. -/
def fnMovedCard : Claim7 := { stood := { row := fnMovedRow, standIns := [], harness := (true, "25699d1902186875361ee4f1793041e757fd5946627bc6361c1dc29bad872478"), looks := false }, kinds := [], alts := [], laidByText := true, laidKinds := [.data], laidTests := true, laidLooks := .later }
def FnMovedCardSaid : Prop := Claim7.holds Tryd.pinned (.plain (OpenSpec.ofChange fnMovedSpec)) fnMovedCard

/-- THE TIED CARD OF 'laws.FnNearest'. -/
def fnNearestCard : Claim7 := { stood := { row := fnNearestRow, standIns := [], harness := (true, "25699d1902186875361ee4f1793041e757fd5946627bc6361c1dc29bad872478"), looks := false }, kinds := [], alts := [], laidByText := true, laidKinds := [.data], laidTests := true, laidLooks := .later }
def FnNearestCardSaid : Prop := Claim7.holds Tryd.pinned (.plain (OpenSpec.ofChange fnNearestSpec)) fnNearestCard

/-- THE TIED CARD OF 'laws.FnSmall'. -/
def fnSmallCard : Claim7 := { stood := { row := fnSmallRow, standIns := [], harness := (true, "25699d1902186875361ee4f1793041e757fd5946627bc6361c1dc29bad872478"), looks := false }, kinds := [], alts := [], laidByText := true, laidKinds := [.data, .data, .data], laidTests := true, laidLooks := .later }
def FnSmallCardSaid : Prop := Claim7.holds Tryd.pinned (.plain (OpenSpec.ofChange fnSmallSpec)) fnSmallCard

/-- THE TIED CARD OF 'laws.FnExactMoved'. -/
def fnExactMovedCard : Claim7 := { stood := { row := fnExactMovedRow, standIns := [], harness := (true, "25699d1902186875361ee4f1793041e757fd5946627bc6361c1dc29bad872478"), looks := false }, kinds := [], alts := [], laidByText := true, laidKinds := [.data], laidTests := true, laidLooks := .later }
def FnExactMovedCardSaid : Prop := Claim7.holds Tryd.pinned (.plain (OpenSpec.ofChange fnExactMovedSpec)) fnExactMovedCard

/-- THE TIED CARD OF 'laws.FnExactBestMotion'. -/
def fnExactBestMotionCard : Claim7 := { stood := { row := fnExactBestMotionRow, standIns := [], harness := (true, "25699d1902186875361ee4f1793041e757fd5946627bc6361c1dc29bad872478"), looks := false }, kinds := [], alts := [], laidByText := true, laidKinds := [.data], laidTests := true, laidLooks := .later }
def FnExactBestMotionCardSaid : Prop := Claim7.holds Tryd.pinned (.plain (OpenSpec.ofChange fnExactBestMotionSpec)) fnExactBestMotionCard

/-- THE TIED CARD OF 'laws.FnExactSmallForward'. -/
def fnExactSmallForwardCard : Claim7 := { stood := { row := fnExactSmallForwardRow, standIns := [], harness := (true, "25699d1902186875361ee4f1793041e757fd5946627bc6361c1dc29bad872478"), looks := false }, kinds := [], alts := [], laidByText := true, laidKinds := [.data], laidTests := true, laidLooks := .later }
def FnExactSmallForwardCardSaid : Prop := Claim7.holds Tryd.pinned (.plain (OpenSpec.ofChange fnExactSmallForwardSpec)) fnExactSmallForwardCard

/-- THE TIED CARD OF 'laws.FnExactSmallCoarse'. -/
def fnExactSmallCoarseCard : Claim7 := { stood := { row := fnExactSmallCoarseRow, standIns := [], harness := (true, "25699d1902186875361ee4f1793041e757fd5946627bc6361c1dc29bad872478"), looks := false }, kinds := [], alts := [], laidByText := true, laidKinds := [.data], laidTests := true, laidLooks := .later }
def FnExactSmallCoarseCardSaid : Prop := Claim7.holds Tryd.pinned (.plain (OpenSpec.ofChange fnExactSmallCoarseSpec)) fnExactSmallCoarseCard

/-- THE TIED CARD OF 'laws.FnExactSmallFine'. -/
def fnExactSmallFineCard : Claim7 := { stood := { row := fnExactSmallFineRow, standIns := [], harness := (true, "25699d1902186875361ee4f1793041e757fd5946627bc6361c1dc29bad872478"), looks := false }, kinds := [], alts := [], laidByText := true, laidKinds := [.data], laidTests := true, laidLooks := .later }
def FnExactSmallFineCardSaid : Prop := Claim7.holds Tryd.pinned (.plain (OpenSpec.ofChange fnExactSmallFineSpec)) fnExactSmallFineCard

/-- THE SECOND FORM's CARD OF 'laws.FnMoved'. -/
def fnMovedUptoCard : Claim7 := { stood := { row := fnMovedUptoRow, standIns := [], harness := (true, "25699d1902186875361ee4f1793041e757fd5946627bc6361c1dc29bad872478"), looks := false }, kinds := [], alts := [], laidByText := true, laidKinds := [.data], laidTests := true, laidLooks := .later }
def FnMovedUptoCardSaid : Prop := Claim7.holds Tryd.pinned (.plain (OpenSpec.upto fnMovedSpec)) fnMovedUptoCard

/-- THE SECOND FORM's CARD OF 'laws.FnNearest'. -/
def fnNearestUptoCard : Claim7 := { stood := { row := fnNearestUptoRow, standIns := [], harness := (true, "25699d1902186875361ee4f1793041e757fd5946627bc6361c1dc29bad872478"), looks := false }, kinds := [], alts := [], laidByText := true, laidKinds := [.data], laidTests := true, laidLooks := .later }
def FnNearestUptoCardSaid : Prop := Claim7.holds Tryd.pinned (.plain (OpenSpec.upto fnNearestSpec)) fnNearestUptoCard

/-- THE SECOND FORM's CARD OF 'laws.FnSmall'. -/
def fnSmallUptoCard : Claim7 := { stood := { row := fnSmallUptoRow, standIns := [], harness := (true, "25699d1902186875361ee4f1793041e757fd5946627bc6361c1dc29bad872478"), looks := false }, kinds := [], alts := [], laidByText := true, laidKinds := [.data, .data, .data], laidTests := true, laidLooks := .later }
def FnSmallUptoCardSaid : Prop := Claim7.holds Tryd.pinned (.plain (OpenSpec.upto fnSmallSpec)) fnSmallUptoCard

/-- THE SECOND FORM's CARD OF 'laws.FnExactMoved'. -/
def fnExactMovedUptoCard : Claim7 := { stood := { row := fnExactMovedUptoRow, standIns := [], harness := (true, "25699d1902186875361ee4f1793041e757fd5946627bc6361c1dc29bad872478"), looks := false }, kinds := [], alts := [], laidByText := true, laidKinds := [.data], laidTests := true, laidLooks := .later }
def FnExactMovedUptoCardSaid : Prop := Claim7.holds Tryd.pinned (.plain (OpenSpec.upto fnExactMovedSpec)) fnExactMovedUptoCard

/-- THE SECOND FORM's CARD OF 'laws.FnExactBestMotion'. -/
def fnExactBestMotionUptoCard : Claim7 := { stood := { row := fnExactBestMotionUptoRow, standIns := [], harness := (true, "25699d1902186875361ee4f1793041e757fd5946627bc6361c1dc29bad872478"), looks := false }, kinds := [], alts := [], laidByText := true, laidKinds := [.data], laidTests := true, laidLooks := .later }
def FnExactBestMotionUptoCardSaid : Prop := Claim7.holds Tryd.pinned (.plain (OpenSpec.upto fnExactBestMotionSpec)) fnExactBestMotionUptoCard

/-- THE SECOND FORM's CARD OF 'laws.FnExactSmallForward'. -/
def fnExactSmallForwardUptoCard : Claim7 := { stood := { row := fnExactSmallForwardUptoRow, standIns := [], harness := (true, "25699d1902186875361ee4f1793041e757fd5946627bc6361c1dc29bad872478"), looks := false }, kinds := [], alts := [], laidByText := true, laidKinds := [.data], laidTests := true, laidLooks := .later }
def FnExactSmallForwardUptoCardSaid : Prop := Claim7.holds Tryd.pinned (.plain (OpenSpec.upto fnExactSmallForwardSpec)) fnExactSmallForwardUptoCard

/-- THE SECOND FORM's CARD OF 'laws.FnExactSmallCoarse'. -/
def fnExactSmallCoarseUptoCard : Claim7 := { stood := { row := fnExactSmallCoarseUptoRow, standIns := [], harness := (true, "25699d1902186875361ee4f1793041e757fd5946627bc6361c1dc29bad872478"), looks := false }, kinds := [], alts := [], laidByText := true, laidKinds := [.data], laidTests := true, laidLooks := .later }
def FnExactSmallCoarseUptoCardSaid : Prop := Claim7.holds Tryd.pinned (.plain (OpenSpec.upto fnExactSmallCoarseSpec)) fnExactSmallCoarseUptoCard

/-- THE SECOND FORM's CARD OF 'laws.FnExactSmallFine'. -/
def fnExactSmallFineUptoCard : Claim7 := { stood := { row := fnExactSmallFineUptoRow, standIns := [], harness := (true, "25699d1902186875361ee4f1793041e757fd5946627bc6361c1dc29bad872478"), looks := false }, kinds := [], alts := [], laidByText := true, laidKinds := [.data], laidTests := true, laidLooks := .later }
def FnExactSmallFineUptoCardSaid : Prop := Claim7.holds Tryd.pinned (.plain (OpenSpec.upto fnExactSmallFineSpec)) fnExactSmallFineUptoCard
end Rows
end Go.Proofs.YtpofmcepjmbmcaaDoor
