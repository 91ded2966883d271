/-
  No cell of these rows narrows 'for every input' (looked for: loops, veiled, ifaces, maps, wideKeys, modest, calm, conditions, laid).
  DERIVED. THE GIVEN ROWS OF THIS SEAT. 11 by the template 'for every input the law returns true; each argument reads behind the call as it read before'; 0 by the template 'total and deterministic' (their statements: YtailhdfmfmlniaaTotals.lean).
  GIVEN WITH THE SEED: the statements are not yours to turn. If you find one false, say at which input.
  Laid BY PROGRAM, IN A SANDBOX (cutbox-rows.mjs): the forced cells as the released guide's own fill.sh prints them over the translation 9dd65ee3841080f0… (all of the seat's roots in one cut). By AI agents, Wed Nov 11 2026. No macro, syntax, notation, axiom, sorry.
-/
import Derived.Test.YtailhdfmfmlniaaChecked
import GoSem.Claim
import GoSem.ClaimJoined
import GoSem.ClaimMapViews
import Derived.JoinedTies
import Derived.KernelRfl
namespace Go.Proofs.Ytailhdfmfmlniaa
/- THE CELL 'sum', in the pinned program and in every row, IS THE sha256 OF THE DUMP (.gsa) THAT YtailhdfmfmlniaaProg.lean LOADS. Nothing in Lean hashes anything: it is a label: what it is worth is what the hold of that sum in a sandbox is worth. -/
noncomputable def Try.pinned : Pinned := { name := "ytailhdfmfmlniaa", sum := "9dd65ee3841080f0232fbaa84a6a4747c75d60eb99aa6350f840c5b48b686982", checked := Try.checked }
namespace Rows
def none {H : Type} : Left H := { results := [], args := [] }

/-- 'laws.FnBetween': WHATEVER THE INPUT: true; the input reads as it did. -/
def fnBetweenSpec : ChangeSpec := { name := "fnBetween", fn := fun _ => fun
  | [d] => { results := [.lit (.bool true)], args := [d] }
  | _ => none }
def fnBetweenRow : OpenClaim := { program := "ytailhdfmfmlniaa", sum := "9dd65ee3841080f0232fbaa84a6a4747c75d60eb99aa6350f840c5b48b686982", func := "loop.example/g00016/laws.FnBetween", spec := "fnBetween", apart := false }
def FnBetweenSaid : Prop := fnBetweenRow.holds Try.pinned (OpenSpec.ofChange fnBetweenSpec)

/-- ITS FALSE NEIGHBOUR: 'it returns false'. Refute it at one input. -/
def fnBetweenWrong : ChangeSpec := { name := "fnBetween", fn := fun _ => fun
  | [d] => { results := [.lit (.bool false)], args := [d] }
  | _ => none }
def FnBetweenWrongFalsely : Prop := fnBetweenRow.holds Try.pinned (OpenSpec.ofChange fnBetweenWrong)

/-- 'laws.FnResidue': WHATEVER THE INPUT: true; the input reads as it did. -/
def fnResidueSpec : ChangeSpec := { name := "fnResidue", fn := fun _ => fun
  | [d] => { results := [.lit (.bool true)], args := [d] }
  | _ => none }
def fnResidueRow : OpenClaim := { program := "ytailhdfmfmlniaa", sum := "9dd65ee3841080f0232fbaa84a6a4747c75d60eb99aa6350f840c5b48b686982", func := "loop.example/g00016/laws.FnResidue", spec := "fnResidue", unfollowed := true, recurses := true, apart := false }
def FnResidueSaid : Prop := fnResidueRow.holds Try.pinned (OpenSpec.ofChange fnResidueSpec)

/-- ITS FALSE NEIGHBOUR: 'it returns false'. Refute it at one input. -/
def fnResidueWrong : ChangeSpec := { name := "fnResidue", fn := fun _ => fun
  | [d] => { results := [.lit (.bool false)], args := [d] }
  | _ => none }
def FnResidueWrongFalsely : Prop := fnResidueRow.holds Try.pinned (OpenSpec.ofChange fnResidueWrong)

/-- 'laws.FnExactResidue': WHATEVER THE INPUT: true; the input reads as it did. -/
def fnExactResidueSpec : ChangeSpec := { name := "fnExactResidue", fn := fun _ => fun
  | [d1, d2] => { results := [.lit (.bool true)], args := [d1, d2] }
  | _ => none }
def fnExactResidueRow : OpenClaim := { program := "ytailhdfmfmlniaa", sum := "9dd65ee3841080f0232fbaa84a6a4747c75d60eb99aa6350f840c5b48b686982", func := "loop.example/g00016/laws.FnExactResidue", spec := "fnExactResidue", unfollowed := true, recurses := true, apart := false }
def FnExactResidueSaid : Prop := fnExactResidueRow.holds Try.pinned (OpenSpec.ofChange fnExactResidueSpec)

/-- ITS FALSE NEIGHBOUR: 'it returns false'. Refute it at one input. -/
def fnExactResidueWrong : ChangeSpec := { name := "fnExactResidue", fn := fun _ => fun
  | [d1, d2] => { results := [.lit (.bool false)], args := [d1, d2] }
  | _ => none }
def FnExactResidueWrongFalsely : Prop := fnExactResidueRow.holds Try.pinned (OpenSpec.ofChange fnExactResidueWrong)

/-- 'laws.FnExactRestore': WHATEVER THE INPUT: true; the input reads as it did. -/
def fnExactRestoreSpec : ChangeSpec := { name := "fnExactRestore", fn := fun _ => fun
  | [d1, d2] => { results := [.lit (.bool true)], args := [d1, d2] }
  | _ => none }
def fnExactRestoreRow : OpenClaim := { program := "ytailhdfmfmlniaa", sum := "9dd65ee3841080f0232fbaa84a6a4747c75d60eb99aa6350f840c5b48b686982", func := "loop.example/g00016/laws.FnExactRestore", spec := "fnExactRestore", unfollowed := true, recurses := true, apart := false }
def FnExactRestoreSaid : Prop := fnExactRestoreRow.holds Try.pinned (OpenSpec.ofChange fnExactRestoreSpec)

/-- ITS FALSE NEIGHBOUR: 'it returns false'. Refute it at one input. -/
def fnExactRestoreWrong : ChangeSpec := { name := "fnExactRestore", fn := fun _ => fun
  | [d1, d2] => { results := [.lit (.bool false)], args := [d1, d2] }
  | _ => none }
def FnExactRestoreWrongFalsely : Prop := fnExactRestoreRow.holds Try.pinned (OpenSpec.ofChange fnExactRestoreWrong)

/-- 'laws.FnExactPlanCost': WHATEVER THE INPUT: true; the input reads as it did. -/
def fnExactPlanCostSpec : ChangeSpec := { name := "fnExactPlanCost", fn := fun _ => fun
  | [d1, d2] => { results := [.lit (.bool true)], args := [d1, d2] }
  | _ => none }
def fnExactPlanCostRow : OpenClaim := { program := "ytailhdfmfmlniaa", sum := "9dd65ee3841080f0232fbaa84a6a4747c75d60eb99aa6350f840c5b48b686982", func := "loop.example/g00016/laws.FnExactPlanCost", spec := "fnExactPlanCost", unfollowed := true, recurses := true, apart := false }
def FnExactPlanCostSaid : Prop := fnExactPlanCostRow.holds Try.pinned (OpenSpec.ofChange fnExactPlanCostSpec)

/-- ITS FALSE NEIGHBOUR: 'it returns false'. Refute it at one input. -/
def fnExactPlanCostWrong : ChangeSpec := { name := "fnExactPlanCost", fn := fun _ => fun
  | [d1, d2] => { results := [.lit (.bool false)], args := [d1, d2] }
  | _ => none }
def FnExactPlanCostWrongFalsely : Prop := fnExactPlanCostRow.holds Try.pinned (OpenSpec.ofChange fnExactPlanCostWrong)

/-- 'laws.FnExactTurn': WHATEVER THE INPUT: true; the input reads as it did. -/
def fnExactTurnSpec : ChangeSpec := { name := "fnExactTurn", fn := fun _ => fun
  | [d1, d2, d3] => { results := [.lit (.bool true)], args := [d1, d2, d3] }
  | _ => none }
def fnExactTurnRow : OpenClaim := { program := "ytailhdfmfmlniaa", sum := "9dd65ee3841080f0232fbaa84a6a4747c75d60eb99aa6350f840c5b48b686982", func := "loop.example/g00016/laws.FnExactTurn", spec := "fnExactTurn", unfollowed := true, recurses := true, apart := false }
def FnExactTurnSaid : Prop := fnExactTurnRow.holds Try.pinned (OpenSpec.ofChange fnExactTurnSpec)

/-- ITS FALSE NEIGHBOUR: 'it returns false'. Refute it at one input. -/
def fnExactTurnWrong : ChangeSpec := { name := "fnExactTurn", fn := fun _ => fun
  | [d1, d2, d3] => { results := [.lit (.bool false)], args := [d1, d2, d3] }
  | _ => none }
def FnExactTurnWrongFalsely : Prop := fnExactTurnRow.holds Try.pinned (OpenSpec.ofChange fnExactTurnWrong)

/-- 'laws.FnExactUnturn': WHATEVER THE INPUT: true; the input reads as it did. -/
def fnExactUnturnSpec : ChangeSpec := { name := "fnExactUnturn", fn := fun _ => fun
  | [d1, d2, d3] => { results := [.lit (.bool true)], args := [d1, d2, d3] }
  | _ => none }
def fnExactUnturnRow : OpenClaim := { program := "ytailhdfmfmlniaa", sum := "9dd65ee3841080f0232fbaa84a6a4747c75d60eb99aa6350f840c5b48b686982", func := "loop.example/g00016/laws.FnExactUnturn", spec := "fnExactUnturn", unfollowed := true, recurses := true, apart := false }
def FnExactUnturnSaid : Prop := fnExactUnturnRow.holds Try.pinned (OpenSpec.ofChange fnExactUnturnSpec)

/-- ITS FALSE NEIGHBOUR: 'it returns false'. Refute it at one input. -/
def fnExactUnturnWrong : ChangeSpec := { name := "fnExactUnturn", fn := fun _ => fun
  | [d1, d2, d3] => { results := [.lit (.bool false)], args := [d1, d2, d3] }
  | _ => none }
def FnExactUnturnWrongFalsely : Prop := fnExactUnturnRow.holds Try.pinned (OpenSpec.ofChange fnExactUnturnWrong)

/-- 'laws.FnExactGoodSound': WHATEVER THE INPUT: true; the input reads as it did. -/
def fnExactGoodSoundSpec : ChangeSpec := { name := "fnExactGoodSound", fn := fun _ => fun
  | [d] => { results := [.lit (.bool true)], args := [d] }
  | _ => none }
def fnExactGoodSoundRow : OpenClaim := { program := "ytailhdfmfmlniaa", sum := "9dd65ee3841080f0232fbaa84a6a4747c75d60eb99aa6350f840c5b48b686982", func := "loop.example/g00016/laws.FnExactGoodSound", spec := "fnExactGoodSound", apart := false }
def FnExactGoodSoundSaid : Prop := fnExactGoodSoundRow.holds Try.pinned (OpenSpec.ofChange fnExactGoodSoundSpec)

/-- ITS FALSE NEIGHBOUR: 'it returns false'. Refute it at one input. -/
def fnExactGoodSoundWrong : ChangeSpec := { name := "fnExactGoodSound", fn := fun _ => fun
  | [d] => { results := [.lit (.bool false)], args := [d] }
  | _ => none }
def FnExactGoodSoundWrongFalsely : Prop := fnExactGoodSoundRow.holds Try.pinned (OpenSpec.ofChange fnExactGoodSoundWrong)

/-- 'laws.FnExactDecodeSound': WHATEVER THE INPUT: true; the input reads as it did. -/
def fnExactDecodeSoundSpec : ChangeSpec := { name := "fnExactDecodeSound", fn := fun _ => fun
  | [d] => { results := [.lit (.bool true)], args := [d] }
  | _ => none }
def fnExactDecodeSoundRow : OpenClaim := { program := "ytailhdfmfmlniaa", sum := "9dd65ee3841080f0232fbaa84a6a4747c75d60eb99aa6350f840c5b48b686982", func := "loop.example/g00016/laws.FnExactDecodeSound", spec := "fnExactDecodeSound", unfollowed := true, recurses := true, apart := false }
def FnExactDecodeSoundSaid : Prop := fnExactDecodeSoundRow.holds Try.pinned (OpenSpec.ofChange fnExactDecodeSoundSpec)

/-- ITS FALSE NEIGHBOUR: 'it returns false'. Refute it at one input. -/
def fnExactDecodeSoundWrong : ChangeSpec := { name := "fnExactDecodeSound", fn := fun _ => fun
  | [d] => { results := [.lit (.bool false)], args := [d] }
  | _ => none }
def FnExactDecodeSoundWrongFalsely : Prop := fnExactDecodeSoundRow.holds Try.pinned (OpenSpec.ofChange fnExactDecodeSoundWrong)

/-- 'laws.FnExactScreens': WHATEVER THE INPUT: true; the input reads as it did. -/
def fnExactScreensSpec : ChangeSpec := { name := "fnExactScreens", fn := fun _ => fun
  | [d] => { results := [.lit (.bool true)], args := [d] }
  | _ => none }
def fnExactScreensRow : OpenClaim := { program := "ytailhdfmfmlniaa", sum := "9dd65ee3841080f0232fbaa84a6a4747c75d60eb99aa6350f840c5b48b686982", func := "loop.example/g00016/laws.FnExactScreens", spec := "fnExactScreens", apart := false }
def FnExactScreensSaid : Prop := fnExactScreensRow.holds Try.pinned (OpenSpec.ofChange fnExactScreensSpec)

/-- ITS FALSE NEIGHBOUR: 'it returns false'. Refute it at one input. -/
def fnExactScreensWrong : ChangeSpec := { name := "fnExactScreens", fn := fun _ => fun
  | [d] => { results := [.lit (.bool false)], args := [d] }
  | _ => none }
def FnExactScreensWrongFalsely : Prop := fnExactScreensRow.holds Try.pinned (OpenSpec.ofChange fnExactScreensWrong)

/-- 'laws.FnExactBetween': WHATEVER THE INPUT: true; the input reads as it did. -/
def fnExactBetweenSpec : ChangeSpec := { name := "fnExactBetween", fn := fun _ => fun
  | [d1, d2, d3, d4] => { results := [.lit (.bool true)], args := [d1, d2, d3, d4] }
  | _ => none }
def fnExactBetweenRow : OpenClaim := { program := "ytailhdfmfmlniaa", sum := "9dd65ee3841080f0232fbaa84a6a4747c75d60eb99aa6350f840c5b48b686982", func := "loop.example/g00016/laws.FnExactBetween", spec := "fnExactBetween", apart := false }
def FnExactBetweenSaid : Prop := fnExactBetweenRow.holds Try.pinned (OpenSpec.ofChange fnExactBetweenSpec)

/-- ITS FALSE NEIGHBOUR: 'it returns false'. Refute it at one input. -/
def fnExactBetweenWrong : ChangeSpec := { name := "fnExactBetween", fn := fun _ => fun
  | [d1, d2, d3, d4] => { results := [.lit (.bool false)], args := [d1, d2, d3, d4] }
  | _ => none }
def FnExactBetweenWrongFalsely : Prop := fnExactBetweenRow.holds Try.pinned (OpenSpec.ofChange fnExactBetweenWrong)

/- THE SECOND FORM. 'bulk': how many values and letters a reading holds, each counted each time it is reached (what is shared counts as often as it is met; a slice's spare places count too). A statement '..UptoSaid' is the law's where the arguments, and the package variables that the reading takes, are together of bulk at most 1048576: NARROWER than '..Said'. Prove '..Said' where nothing that the law and all that it calls make is longer than what came in: it says more and counts as full. Else prove '..UptoSaid'. A law counts once. -/
mutual
def uptoBulk {H : Type} : DataW H → Nat
  | .lit (.string bytes) => bytes.length + 1
  | .lit _ => 1
  | .nil => 1
  | .ptr d => uptoBulk d + 1
  | .slice elems spare => uptoBulkAll elems + uptoBulkAll spare + 1
  | .agg parts => uptoBulkAll parts + 1
  | .iface _ d => uptoBulk d + 1
  | .map entries => uptoBulkEntries entries + 1
  | .held _ => 1
def uptoBulkAll {H : Type} : List (DataW H) → Nat
  | [] => 0
  | d :: r => uptoBulk d + uptoBulkAll r
def uptoBulkEntries {H : Type} : List (Lit × DataW H) → Nat
  | [] => 0
  | x :: r => uptoBulkEntry x + uptoBulkEntries r
def uptoBulkEntry {H : Type} : Lit × DataW H → Nat
  | (.string bytes, d) => bytes.length + uptoBulk d + 1
  | (_, d) => uptoBulk d + 1
 end
def uptoSmall : (H : Type) → List (DataW H) → Bool := fun _ ds => decide (uptoBulkAll ds ≤ 1048576)
def OpenSpec.upto (s : _root_.Go.ChangeSpec) : _root_.Go.OpenSpec := { _root_.Go.OpenSpec.ofChange s with cond := some uptoSmall }

/-- 'laws.FnBetween', WHERE WHAT IT READS IS OF BULK AT MOST 1048576: true; the input reads as it did. -/
def fnBetweenUptoRow : OpenClaim := { program := "ytailhdfmfmlniaa", sum := "9dd65ee3841080f0232fbaa84a6a4747c75d60eb99aa6350f840c5b48b686982", func := "loop.example/g00016/laws.FnBetween", spec := "fnBetween", apart := false, narrowed := true }
def FnBetweenUptoSaid : Prop := fnBetweenUptoRow.holds Try.pinned (OpenSpec.upto fnBetweenSpec)

/-- 'laws.FnResidue', WHERE WHAT IT READS IS OF BULK AT MOST 1048576: true; the input reads as it did. -/
def fnResidueUptoRow : OpenClaim := { program := "ytailhdfmfmlniaa", sum := "9dd65ee3841080f0232fbaa84a6a4747c75d60eb99aa6350f840c5b48b686982", func := "loop.example/g00016/laws.FnResidue", spec := "fnResidue", unfollowed := true, recurses := true, apart := false, narrowed := true }
def FnResidueUptoSaid : Prop := fnResidueUptoRow.holds Try.pinned (OpenSpec.upto fnResidueSpec)

/-- 'laws.FnExactResidue', WHERE WHAT IT READS IS OF BULK AT MOST 1048576: true; the input reads as it did. -/
def fnExactResidueUptoRow : OpenClaim := { program := "ytailhdfmfmlniaa", sum := "9dd65ee3841080f0232fbaa84a6a4747c75d60eb99aa6350f840c5b48b686982", func := "loop.example/g00016/laws.FnExactResidue", spec := "fnExactResidue", unfollowed := true, recurses := true, apart := false, narrowed := true }
def FnExactResidueUptoSaid : Prop := fnExactResidueUptoRow.holds Try.pinned (OpenSpec.upto fnExactResidueSpec)

/-- 'laws.FnExactRestore', WHERE WHAT IT READS IS OF BULK AT MOST 1048576: true; the input reads as it did. -/
def fnExactRestoreUptoRow : OpenClaim := { program := "ytailhdfmfmlniaa", sum := "9dd65ee3841080f0232fbaa84a6a4747c75d60eb99aa6350f840c5b48b686982", func := "loop.example/g00016/laws.FnExactRestore", spec := "fnExactRestore", unfollowed := true, recurses := true, apart := false, narrowed := true }
def FnExactRestoreUptoSaid : Prop := fnExactRestoreUptoRow.holds Try.pinned (OpenSpec.upto fnExactRestoreSpec)

/-- 'laws.FnExactPlanCost', WHERE WHAT IT READS IS OF BULK AT MOST 1048576: true; the input reads as it did. -/
def fnExactPlanCostUptoRow : OpenClaim := { program := "ytailhdfmfmlniaa", sum := "9dd65ee3841080f0232fbaa84a6a4747c75d60eb99aa6350f840c5b48b686982", func := "loop.example/g00016/laws.FnExactPlanCost", spec := "fnExactPlanCost", unfollowed := true, recurses := true, apart := false, narrowed := true }
def FnExactPlanCostUptoSaid : Prop := fnExactPlanCostUptoRow.holds Try.pinned (OpenSpec.upto fnExactPlanCostSpec)

/-- 'laws.FnExactTurn', WHERE WHAT IT READS IS OF BULK AT MOST 1048576: true; the input reads as it did. -/
def fnExactTurnUptoRow : OpenClaim := { program := "ytailhdfmfmlniaa", sum := "9dd65ee3841080f0232fbaa84a6a4747c75d60eb99aa6350f840c5b48b686982", func := "loop.example/g00016/laws.FnExactTurn", spec := "fnExactTurn", unfollowed := true, recurses := true, apart := false, narrowed := true }
def FnExactTurnUptoSaid : Prop := fnExactTurnUptoRow.holds Try.pinned (OpenSpec.upto fnExactTurnSpec)

/-- 'laws.FnExactUnturn', WHERE WHAT IT READS IS OF BULK AT MOST 1048576: true; the input reads as it did. -/
def fnExactUnturnUptoRow : OpenClaim := { program := "ytailhdfmfmlniaa", sum := "9dd65ee3841080f0232fbaa84a6a4747c75d60eb99aa6350f840c5b48b686982", func := "loop.example/g00016/laws.FnExactUnturn", spec := "fnExactUnturn", unfollowed := true, recurses := true, apart := false, narrowed := true }
def FnExactUnturnUptoSaid : Prop := fnExactUnturnUptoRow.holds Try.pinned (OpenSpec.upto fnExactUnturnSpec)

/-- 'laws.FnExactGoodSound', WHERE WHAT IT READS IS OF BULK AT MOST 1048576: true; the input reads as it did. -/
def fnExactGoodSoundUptoRow : OpenClaim := { program := "ytailhdfmfmlniaa", sum := "9dd65ee3841080f0232fbaa84a6a4747c75d60eb99aa6350f840c5b48b686982", func := "loop.example/g00016/laws.FnExactGoodSound", spec := "fnExactGoodSound", apart := false, narrowed := true }
def FnExactGoodSoundUptoSaid : Prop := fnExactGoodSoundUptoRow.holds Try.pinned (OpenSpec.upto fnExactGoodSoundSpec)

/-- 'laws.FnExactDecodeSound', WHERE WHAT IT READS IS OF BULK AT MOST 1048576: true; the input reads as it did. -/
def fnExactDecodeSoundUptoRow : OpenClaim := { program := "ytailhdfmfmlniaa", sum := "9dd65ee3841080f0232fbaa84a6a4747c75d60eb99aa6350f840c5b48b686982", func := "loop.example/g00016/laws.FnExactDecodeSound", spec := "fnExactDecodeSound", unfollowed := true, recurses := true, apart := false, narrowed := true }
def FnExactDecodeSoundUptoSaid : Prop := fnExactDecodeSoundUptoRow.holds Try.pinned (OpenSpec.upto fnExactDecodeSoundSpec)

/-- 'laws.FnExactScreens', WHERE WHAT IT READS IS OF BULK AT MOST 1048576: true; the input reads as it did. -/
def fnExactScreensUptoRow : OpenClaim := { program := "ytailhdfmfmlniaa", sum := "9dd65ee3841080f0232fbaa84a6a4747c75d60eb99aa6350f840c5b48b686982", func := "loop.example/g00016/laws.FnExactScreens", spec := "fnExactScreens", apart := false, narrowed := true }
def FnExactScreensUptoSaid : Prop := fnExactScreensUptoRow.holds Try.pinned (OpenSpec.upto fnExactScreensSpec)

/-- 'laws.FnExactBetween', WHERE WHAT IT READS IS OF BULK AT MOST 1048576: true; the input reads as it did. -/
def fnExactBetweenUptoRow : OpenClaim := { program := "ytailhdfmfmlniaa", sum := "9dd65ee3841080f0232fbaa84a6a4747c75d60eb99aa6350f840c5b48b686982", func := "loop.example/g00016/laws.FnExactBetween", spec := "fnExactBetween", apart := false, narrowed := true }
def FnExactBetweenUptoSaid : Prop := fnExactBetweenUptoRow.holds Try.pinned (OpenSpec.upto fnExactBetweenSpec)

end Rows
end Go.Proofs.Ytailhdfmfmlniaa
