/-
  No cell of these rows narrows 'for every input' (looked for: loops, veiled, ifaces, maps, wideKeys, modest, calm, conditions, laid).
  DERIVED. THE GIVEN ROWS OF THIS SEAT. 9 by the template 'for every input the law returns true; each argument reads behind the call as it read before'; 0 by the template 'total and deterministic' (their statements: YtnalmingbglgfaaTotals.lean).
  GIVEN WITH THE SEED: the statements are not yours to turn. If you find one false, say at which input.
  Laid BY PROGRAM, IN A SANDBOX (cutbox-rows.mjs): the forced cells as the released guide's own fill.sh prints them over the translation 38128eb2535dac7b… (all of the seat's roots in one cut). By AI agents, Wed Nov 11 2026. No macro, syntax, notation, axiom, sorry.
-/
import Derived.Test.YtnalmingbglgfaaChecked
import GoSem.Claim
import GoSem.ClaimJoined
import GoSem.ClaimMapViews
import Derived.JoinedTies
import Derived.KernelRfl
namespace Go.Proofs.Ytnalmingbglgfaa
/- THE CELL 'sum', in the pinned program and in every row, IS THE sha256 OF THE DUMP (.gsa) THAT YtnalmingbglgfaaProg.lean LOADS. Nothing in Lean hashes anything: it is a label: what it is worth is what the hold of that sum in a sandbox is worth. -/
noncomputable def Try.pinned : Pinned := { name := "ytnalmingbglgfaa", sum := "38128eb2535dac7b9b783df00cbd0ae6a5cf677988299db72127eb177ab74cc0", checked := Try.checked }
namespace Rows
def none {H : Type} : Left H := { results := [], args := [] }

/-- 'laws.FnSizes': WHATEVER THE INPUT: true; the input reads as it did. -/
def fnSizesSpec : ChangeSpec := { name := "fnSizes", fn := fun _ => fun
  | [d] => { results := [.lit (.bool true)], args := [d] }
  | _ => none }
def fnSizesRow : OpenClaim := { program := "ytnalmingbglgfaa", sum := "38128eb2535dac7b9b783df00cbd0ae6a5cf677988299db72127eb177ab74cc0", func := "loop.example/g00016/laws.FnSizes", spec := "fnSizes", apart := false }
def FnSizesSaid : Prop := fnSizesRow.holds Try.pinned (OpenSpec.ofChange fnSizesSpec)

/-- ITS FALSE NEIGHBOUR: 'it returns false'. Refute it at one input. -/
def fnSizesWrong : ChangeSpec := { name := "fnSizes", fn := fun _ => fun
  | [d] => { results := [.lit (.bool false)], args := [d] }
  | _ => none }
def FnSizesWrongFalsely : Prop := fnSizesRow.holds Try.pinned (OpenSpec.ofChange fnSizesWrong)

/-- 'laws.FnCoarse': WHATEVER THE INPUT: true; the input reads as it did. -/
def fnCoarseSpec : ChangeSpec := { name := "fnCoarse", fn := fun _ => fun
  | [d] => { results := [.lit (.bool true)], args := [d] }
  | _ => none }
def fnCoarseRow : OpenClaim := { program := "ytnalmingbglgfaa", sum := "38128eb2535dac7b9b783df00cbd0ae6a5cf677988299db72127eb177ab74cc0", func := "loop.example/g00016/laws.FnCoarse", spec := "fnCoarse", unfollowed := true, recurses := true, apart := false }
def FnCoarseSaid : Prop := fnCoarseRow.holds Try.pinned (OpenSpec.ofChange fnCoarseSpec)

/-- ITS FALSE NEIGHBOUR: 'it returns false'. Refute it at one input. -/
def fnCoarseWrong : ChangeSpec := { name := "fnCoarse", fn := fun _ => fun
  | [d] => { results := [.lit (.bool false)], args := [d] }
  | _ => none }
def FnCoarseWrongFalsely : Prop := fnCoarseRow.holds Try.pinned (OpenSpec.ofChange fnCoarseWrong)

/-- 'laws.FnRuns': WHATEVER THE INPUT: true; the input reads as it did. -/
def fnRunsSpec : ChangeSpec := { name := "fnRuns", fn := fun _ => fun
  | [d] => { results := [.lit (.bool true)], args := [d] }
  | _ => none }
def fnRunsRow : OpenClaim := { program := "ytnalmingbglgfaa", sum := "38128eb2535dac7b9b783df00cbd0ae6a5cf677988299db72127eb177ab74cc0", func := "loop.example/g00016/laws.FnRuns", spec := "fnRuns", unfollowed := true, recurses := true, apart := false }
def FnRunsSaid : Prop := fnRunsRow.holds Try.pinned (OpenSpec.ofChange fnRunsSpec)

/-- ITS FALSE NEIGHBOUR: 'it returns false'. Refute it at one input. -/
def fnRunsWrong : ChangeSpec := { name := "fnRuns", fn := fun _ => fun
  | [d] => { results := [.lit (.bool false)], args := [d] }
  | _ => none }
def FnRunsWrongFalsely : Prop := fnRunsRow.holds Try.pinned (OpenSpec.ofChange fnRunsWrong)

/-- 'laws.FnExactScales': WHATEVER THE INPUT: true; the input reads as it did. -/
def fnExactScalesSpec : ChangeSpec := { name := "fnExactScales", fn := fun _ => fun
  | [d1, d2] => { results := [.lit (.bool true)], args := [d1, d2] }
  | _ => none }
def fnExactScalesRow : OpenClaim := { program := "ytnalmingbglgfaa", sum := "38128eb2535dac7b9b783df00cbd0ae6a5cf677988299db72127eb177ab74cc0", func := "loop.example/g00016/laws.FnExactScales", spec := "fnExactScales", apart := false }
def FnExactScalesSaid : Prop := fnExactScalesRow.holds Try.pinned (OpenSpec.ofChange fnExactScalesSpec)

/-- ITS FALSE NEIGHBOUR: 'it returns false'. Refute it at one input. -/
def fnExactScalesWrong : ChangeSpec := { name := "fnExactScales", fn := fun _ => fun
  | [d1, d2] => { results := [.lit (.bool false)], args := [d1, d2] }
  | _ => none }
def FnExactScalesWrongFalsely : Prop := fnExactScalesRow.holds Try.pinned (OpenSpec.ofChange fnExactScalesWrong)

/-- 'laws.FnExactCoarse': WHATEVER THE INPUT: true; the input reads as it did. -/
def fnExactCoarseSpec : ChangeSpec := { name := "fnExactCoarse", fn := fun _ => fun
  | [d1, d2] => { results := [.lit (.bool true)], args := [d1, d2] }
  | _ => none }
def fnExactCoarseRow : OpenClaim := { program := "ytnalmingbglgfaa", sum := "38128eb2535dac7b9b783df00cbd0ae6a5cf677988299db72127eb177ab74cc0", func := "loop.example/g00016/laws.FnExactCoarse", spec := "fnExactCoarse", unfollowed := true, recurses := true, apart := false }
def FnExactCoarseSaid : Prop := fnExactCoarseRow.holds Try.pinned (OpenSpec.ofChange fnExactCoarseSpec)

/-- ITS FALSE NEIGHBOUR: 'it returns false'. Refute it at one input. -/
def fnExactCoarseWrong : ChangeSpec := { name := "fnExactCoarse", fn := fun _ => fun
  | [d1, d2] => { results := [.lit (.bool false)], args := [d1, d2] }
  | _ => none }
def FnExactCoarseWrongFalsely : Prop := fnExactCoarseRow.holds Try.pinned (OpenSpec.ofChange fnExactCoarseWrong)

/-- 'laws.FnExactFine': WHATEVER THE INPUT: true; the input reads as it did. -/
def fnExactFineSpec : ChangeSpec := { name := "fnExactFine", fn := fun _ => fun
  | [d1, d2] => { results := [.lit (.bool true)], args := [d1, d2] }
  | _ => none }
def fnExactFineRow : OpenClaim := { program := "ytnalmingbglgfaa", sum := "38128eb2535dac7b9b783df00cbd0ae6a5cf677988299db72127eb177ab74cc0", func := "loop.example/g00016/laws.FnExactFine", spec := "fnExactFine", unfollowed := true, recurses := true, apart := false }
def FnExactFineSaid : Prop := fnExactFineRow.holds Try.pinned (OpenSpec.ofChange fnExactFineSpec)

/-- ITS FALSE NEIGHBOUR: 'it returns false'. Refute it at one input. -/
def fnExactFineWrong : ChangeSpec := { name := "fnExactFine", fn := fun _ => fun
  | [d1, d2] => { results := [.lit (.bool false)], args := [d1, d2] }
  | _ => none }
def FnExactFineWrongFalsely : Prop := fnExactFineRow.holds Try.pinned (OpenSpec.ofChange fnExactFineWrong)

/-- 'laws.FnExactScanOrder': WHATEVER THE INPUT: true; the input reads as it did. -/
def fnExactScanOrderSpec : ChangeSpec := { name := "fnExactScanOrder", fn := fun _ => fun
  | [] => { results := [.lit (.bool true)], args := [] }
  | _ => none }
def fnExactScanOrderRow : OpenClaim := { program := "ytnalmingbglgfaa", sum := "38128eb2535dac7b9b783df00cbd0ae6a5cf677988299db72127eb177ab74cc0", func := "loop.example/g00016/laws.FnExactScanOrder", spec := "fnExactScanOrder", unfollowed := true, recurses := true, apart := false }
def FnExactScanOrderSaid : Prop := fnExactScanOrderRow.holds Try.pinned (OpenSpec.ofChange fnExactScanOrderSpec)

/-- ITS FALSE NEIGHBOUR: 'it returns false'. Refute it at one input. -/
def fnExactScanOrderWrong : ChangeSpec := { name := "fnExactScanOrder", fn := fun _ => fun
  | [] => { results := [.lit (.bool false)], args := [] }
  | _ => none }
def FnExactScanOrderWrongFalsely : Prop := fnExactScanOrderRow.holds Try.pinned (OpenSpec.ofChange fnExactScanOrderWrong)

/-- 'laws.FnExactRunsOf': WHATEVER THE INPUT: true; the input reads as it did. -/
def fnExactRunsOfSpec : ChangeSpec := { name := "fnExactRunsOf", fn := fun _ => fun
  | [d] => { results := [.lit (.bool true)], args := [d] }
  | _ => none }
def fnExactRunsOfRow : OpenClaim := { program := "ytnalmingbglgfaa", sum := "38128eb2535dac7b9b783df00cbd0ae6a5cf677988299db72127eb177ab74cc0", func := "loop.example/g00016/laws.FnExactRunsOf", spec := "fnExactRunsOf", unfollowed := true, recurses := true, apart := false }
def FnExactRunsOfSaid : Prop := fnExactRunsOfRow.holds Try.pinned (OpenSpec.ofChange fnExactRunsOfSpec)

/-- ITS FALSE NEIGHBOUR: 'it returns false'. Refute it at one input. -/
def fnExactRunsOfWrong : ChangeSpec := { name := "fnExactRunsOf", fn := fun _ => fun
  | [d] => { results := [.lit (.bool false)], args := [d] }
  | _ => none }
def FnExactRunsOfWrongFalsely : Prop := fnExactRunsOfRow.holds Try.pinned (OpenSpec.ofChange fnExactRunsOfWrong)

/-- 'laws.FnExactBlockOf': WHATEVER THE INPUT: true; the input reads as it did. -/
def fnExactBlockOfSpec : ChangeSpec := { name := "fnExactBlockOf", fn := fun _ => fun
  | [d] => { results := [.lit (.bool true)], args := [d] }
  | _ => none }
def fnExactBlockOfRow : OpenClaim := { program := "ytnalmingbglgfaa", sum := "38128eb2535dac7b9b783df00cbd0ae6a5cf677988299db72127eb177ab74cc0", func := "loop.example/g00016/laws.FnExactBlockOf", spec := "fnExactBlockOf", unfollowed := true, recurses := true, apart := false }
def FnExactBlockOfSaid : Prop := fnExactBlockOfRow.holds Try.pinned (OpenSpec.ofChange fnExactBlockOfSpec)

/-- ITS FALSE NEIGHBOUR: 'it returns false'. Refute it at one input. -/
def fnExactBlockOfWrong : ChangeSpec := { name := "fnExactBlockOf", fn := fun _ => fun
  | [d] => { results := [.lit (.bool false)], args := [d] }
  | _ => none }
def FnExactBlockOfWrongFalsely : Prop := fnExactBlockOfRow.holds Try.pinned (OpenSpec.ofChange fnExactBlockOfWrong)

/- THE SECOND FORM. 'bulk': how many values and letters a reading holds, each counted each time it is reached (what is shared counts as often as it is met; a slice's spare places count too). A statement '..UptoSaid' is the law's where the arguments, and the package variables that the reading takes, are together of bulk at most 1048576: NARROWER than '..Said'. Prove '..Said' where nothing that the law and all that it calls make is longer than what came in: it says more and counts as full. Else prove '..UptoSaid'. A law counts once. -/
mutual
def uptoBulk {H : Type} : DataW H → Nat
  | .lit (.string bytes) => bytes.length + 1
  | .lit _ => 1
  | .nil => 1
  | .ptr d => uptoBulk d + 1
  | .slice elems spare => uptoBulkAll elems + uptoBulkAll spare + 1
  | .agg parts => uptoBulkAll parts + 1
  | .iface _ d => uptoBulk d + 1
  | .map entries => uptoBulkEntries entries + 1
  | .held _ => 1
def uptoBulkAll {H : Type} : List (DataW H) → Nat
  | [] => 0
  | d :: r => uptoBulk d + uptoBulkAll r
def uptoBulkEntries {H : Type} : List (Lit × DataW H) → Nat
  | [] => 0
  | x :: r => uptoBulkEntry x + uptoBulkEntries r
def uptoBulkEntry {H : Type} : Lit × DataW H → Nat
  | (.string bytes, d) => bytes.length + uptoBulk d + 1
  | (_, d) => uptoBulk d + 1
 end
def uptoSmall : (H : Type) → List (DataW H) → Bool := fun _ ds => decide (uptoBulkAll ds ≤ 1048576)
def OpenSpec.upto (s : _root_.Go.ChangeSpec) : _root_.Go.OpenSpec := { _root_.Go.OpenSpec.ofChange s with cond := some uptoSmall }

/-- 'laws.FnSizes', WHERE WHAT IT READS IS OF BULK AT MOST 1048576: true; the input reads as it did. -/
def fnSizesUptoRow : OpenClaim := { program := "ytnalmingbglgfaa", sum := "38128eb2535dac7b9b783df00cbd0ae6a5cf677988299db72127eb177ab74cc0", func := "loop.example/g00016/laws.FnSizes", spec := "fnSizes", apart := false, narrowed := true }
def FnSizesUptoSaid : Prop := fnSizesUptoRow.holds Try.pinned (OpenSpec.upto fnSizesSpec)

/-- 'laws.FnCoarse', WHERE WHAT IT READS IS OF BULK AT MOST 1048576: true; the input reads as it did. -/
def fnCoarseUptoRow : OpenClaim := { program := "ytnalmingbglgfaa", sum := "38128eb2535dac7b9b783df00cbd0ae6a5cf677988299db72127eb177ab74cc0", func := "loop.example/g00016/laws.FnCoarse", spec := "fnCoarse", unfollowed := true, recurses := true, apart := false, narrowed := true }
def FnCoarseUptoSaid : Prop := fnCoarseUptoRow.holds Try.pinned (OpenSpec.upto fnCoarseSpec)

/-- 'laws.FnRuns', WHERE WHAT IT READS IS OF BULK AT MOST 1048576: true; the input reads as it did. -/
def fnRunsUptoRow : OpenClaim := { program := "ytnalmingbglgfaa", sum := "38128eb2535dac7b9b783df00cbd0ae6a5cf677988299db72127eb177ab74cc0", func := "loop.example/g00016/laws.FnRuns", spec := "fnRuns", unfollowed := true, recurses := true, apart := false, narrowed := true }
def FnRunsUptoSaid : Prop := fnRunsUptoRow.holds Try.pinned (OpenSpec.upto fnRunsSpec)

/-- 'laws.FnExactScales', WHERE WHAT IT READS IS OF BULK AT MOST 1048576: true; the input reads as it did. -/
def fnExactScalesUptoRow : OpenClaim := { program := "ytnalmingbglgfaa", sum := "38128eb2535dac7b9b783df00cbd0ae6a5cf677988299db72127eb177ab74cc0", func := "loop.example/g00016/laws.FnExactScales", spec := "fnExactScales", apart := false, narrowed := true }
def FnExactScalesUptoSaid : Prop := fnExactScalesUptoRow.holds Try.pinned (OpenSpec.upto fnExactScalesSpec)

/-- 'laws.FnExactCoarse', WHERE WHAT IT READS IS OF BULK AT MOST 1048576: true; the input reads as it did. -/
def fnExactCoarseUptoRow : OpenClaim := { program := "ytnalmingbglgfaa", sum := "38128eb2535dac7b9b783df00cbd0ae6a5cf677988299db72127eb177ab74cc0", func := "loop.example/g00016/laws.FnExactCoarse", spec := "fnExactCoarse", unfollowed := true, recurses := true, apart := false, narrowed := true }
def FnExactCoarseUptoSaid : Prop := fnExactCoarseUptoRow.holds Try.pinned (OpenSpec.upto fnExactCoarseSpec)

/-- 'laws.FnExactFine', WHERE WHAT IT READS IS OF BULK AT MOST 1048576: true; the input reads as it did. -/
def fnExactFineUptoRow : OpenClaim := { program := "ytnalmingbglgfaa", sum := "38128eb2535dac7b9b783df00cbd0ae6a5cf677988299db72127eb177ab74cc0", func := "loop.example/g00016/laws.FnExactFine", spec := "fnExactFine", unfollowed := true, recurses := true, apart := false, narrowed := true }
def FnExactFineUptoSaid : Prop := fnExactFineUptoRow.holds Try.pinned (OpenSpec.upto fnExactFineSpec)

/-- 'laws.FnExactScanOrder', WHERE WHAT IT READS IS OF BULK AT MOST 1048576: true; the input reads as it did. -/
def fnExactScanOrderUptoRow : OpenClaim := { program := "ytnalmingbglgfaa", sum := "38128eb2535dac7b9b783df00cbd0ae6a5cf677988299db72127eb177ab74cc0", func := "loop.example/g00016/laws.FnExactScanOrder", spec := "fnExactScanOrder", unfollowed := true, recurses := true, apart := false, narrowed := true }
def FnExactScanOrderUptoSaid : Prop := fnExactScanOrderUptoRow.holds Try.pinned (OpenSpec.upto fnExactScanOrderSpec)

/-- 'laws.FnExactRunsOf', WHERE WHAT IT READS IS OF BULK AT MOST 1048576: true; the input reads as it did. -/
def fnExactRunsOfUptoRow : OpenClaim := { program := "ytnalmingbglgfaa", sum := "38128eb2535dac7b9b783df00cbd0ae6a5cf677988299db72127eb177ab74cc0", func := "loop.example/g00016/laws.FnExactRunsOf", spec := "fnExactRunsOf", unfollowed := true, recurses := true, apart := false, narrowed := true }
def FnExactRunsOfUptoSaid : Prop := fnExactRunsOfUptoRow.holds Try.pinned (OpenSpec.upto fnExactRunsOfSpec)

/-- 'laws.FnExactBlockOf', WHERE WHAT IT READS IS OF BULK AT MOST 1048576: true; the input reads as it did. -/
def fnExactBlockOfUptoRow : OpenClaim := { program := "ytnalmingbglgfaa", sum := "38128eb2535dac7b9b783df00cbd0ae6a5cf677988299db72127eb177ab74cc0", func := "loop.example/g00016/laws.FnExactBlockOf", spec := "fnExactBlockOf", unfollowed := true, recurses := true, apart := false, narrowed := true }
def FnExactBlockOfUptoSaid : Prop := fnExactBlockOfUptoRow.holds Try.pinned (OpenSpec.upto fnExactBlockOfSpec)

end Rows
end Go.Proofs.Ytnalmingbglgfaa
