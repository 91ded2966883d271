/-
  NARROWER THAN 'FOR EVERY INPUT', by the rows' own cells (each row's printed sentence says how): FnMoved: laid · FnNearest: laid · FnSmall: laid · FnExactMoved: laid · FnExactBestMotion: laid · FnExactSmallForward: laid · FnExactSmallCoarse: laid · FnExactSmallFine: laid.
  DERIVED. THE GIVEN ROWS OF THIS SEAT. 8 by the template 'for every input the law returns true; each argument reads behind the call as it read before'; 0 by the template 'total and deterministic' (their statements: YtpofmcepjmbmcaaDoorTotals.lean).
  GIVEN WITH THE SEED: the statements are not yours to turn. If you find one false, say at which input.
  Laid BY PROGRAM, IN A SANDBOX (cutbox-rows.mjs): the forced cells as the released guide's own fill.sh prints them over the translation 587fca60b08068e3… (all of the seat's roots in one cut). By AI agents, Wed Nov 11 2026. No macro, syntax, notation, axiom, sorry.
-/
import Derived.Test.YtpofmcepjmbmcaaDoorChecked
import GoSem.Claim
import GoSem.ClaimJoined
import GoSem.ClaimMapViews
import Derived.JoinedTies
import Derived.KernelRfl
namespace Go.Proofs.YtpofmcepjmbmcaaDoor
/- THE CELL 'sum', in the pinned program and in every row, IS THE sha256 OF THE DUMP (.gsa) THAT YtpofmcepjmbmcaaDoorProg.lean LOADS. Nothing in Lean hashes anything: it is a label: what it is worth is what the hold of that sum in a sandbox is worth. -/
noncomputable def Tryd.pinned : Pinned := { name := "ytpofmcepjmbmcaadoor", sum := "587fca60b08068e32703d6d26aeb266cc7b76d227fd3335d3836288b282a27e9", checked := Tryd.checked }
namespace Rows
def none {H : Type} : Left H := { results := [], args := [] }

/- WHAT THE LISTED PACKAGE-LEVEL VARIABLES READ AS WHEN THE CALL BEGINS. Each datum BY PROGRAM (the guide's laid-datum.mjs) off the statement by which the dump's own 'gosem.cut.vars' lays the variable. In a bare row this is a premise. The card (YtpofmcepjmbmcaaDoorCards.lean) ties it to the program's text. -/
def laid_loop_example_g00016_impl_halfWeights {H : Type} : DataW H := .agg [.lit (.int .i64 1), .lit (.int .i64 (-5)), .lit (.int .i64 20), .lit (.int .i64 20), .lit (.int .i64 (-5)), .lit (.int .i64 1)]
def laid_loop_example_g00016_impl_smallWaves {H : Type} : DataW H := .agg [.agg [.lit (.int .i64 1), .lit (.int .i64 1), .lit (.int .i64 1), .lit (.int .i64 1)], .agg [.lit (.int .i64 2), .lit (.int .i64 1), .lit (.int .i64 (-1)), .lit (.int .i64 (-2))], .agg [.lit (.int .i64 1), .lit (.int .i64 (-1)), .lit (.int .i64 (-1)), .lit (.int .i64 1)], .agg [.lit (.int .i64 1), .lit (.int .i64 (-2)), .lit (.int .i64 2), .lit (.int .i64 (-1))]]
def laid_loop_example_g00016_impl_coarseFactors {H : Type} : DataW H := .agg [.agg [.lit (.int .i64 13107), .lit (.int .i64 5243), .lit (.int .i64 8066)], .agg [.lit (.int .i64 11916), .lit (.int .i64 4660), .lit (.int .i64 7490)], .agg [.lit (.int .i64 10082), .lit (.int .i64 4194), .lit (.int .i64 6554)], .agg [.lit (.int .i64 9362), .lit (.int .i64 3647), .lit (.int .i64 5825)], .agg [.lit (.int .i64 8192), .lit (.int .i64 3355), .lit (.int .i64 5243)], .agg [.lit (.int .i64 7282), .lit (.int .i64 2893), .lit (.int .i64 4559)]]
def laid_loop_example_g00016_impl_fineFactors {H : Type} : DataW H := .agg [.agg [.lit (.int .i64 10), .lit (.int .i64 16), .lit (.int .i64 13)], .agg [.lit (.int .i64 11), .lit (.int .i64 18), .lit (.int .i64 14)], .agg [.lit (.int .i64 13), .lit (.int .i64 20), .lit (.int .i64 16)], .agg [.lit (.int .i64 14), .lit (.int .i64 23), .lit (.int .i64 18)], .agg [.lit (.int .i64 16), .lit (.int .i64 25), .lit (.int .i64 20)], .agg [.lit (.int .i64 18), .lit (.int .i64 29), .lit (.int .i64 23)]]

/-- 'laws.FnMoved': WHATEVER THE INPUT: true; the input reads as it did. -/
def fnMovedSpec : ChangeSpec := { name := "fnMoved", vars := ["loop.example/g00016/impl.halfWeights"], fn := fun _ => fun
  | [d, g1] => { results := [.lit (.bool true)], args := [d], vars := [g1] }
  | _ => none }
def fnMovedRow : OpenClaim := { program := "ytpofmcepjmbmcaadoor", sum := "587fca60b08068e32703d6d26aeb266cc7b76d227fd3335d3836288b282a27e9", func := "loop.example/g00016/laws.FnMoved", spec := "fnMoved", named := ["loop.example/g00016/impl.halfWeights"], apart := false, laid := [("loop.example/g00016/impl.halfWeights", laid_loop_example_g00016_impl_halfWeights)] }
def FnMovedSaid : Prop := fnMovedRow.holds Tryd.pinned (OpenSpec.ofChange fnMovedSpec)

/-- ITS FALSE NEIGHBOUR: 'it returns false'. Refute it at one input. -/
def fnMovedWrong : ChangeSpec := { name := "fnMoved", vars := ["loop.example/g00016/impl.halfWeights"], fn := fun _ => fun
  | [d, g1] => { results := [.lit (.bool false)], args := [d], vars := [g1] }
  | _ => none }
def FnMovedWrongFalsely : Prop := fnMovedRow.holds Tryd.pinned (OpenSpec.ofChange fnMovedWrong)

/-- 'laws.FnNearest': WHATEVER THE INPUT: true; the input reads as it did. -/
def fnNearestSpec : ChangeSpec := { name := "fnNearest", vars := ["loop.example/g00016/impl.halfWeights"], fn := fun _ => fun
  | [d1, d2, g1] => { results := [.lit (.bool true)], args := [d1, d2], vars := [g1] }
  | _ => none }
def fnNearestRow : OpenClaim := { program := "ytpofmcepjmbmcaadoor", sum := "587fca60b08068e32703d6d26aeb266cc7b76d227fd3335d3836288b282a27e9", func := "loop.example/g00016/laws.FnNearest", spec := "fnNearest", named := ["loop.example/g00016/impl.halfWeights"], apart := false, laid := [("loop.example/g00016/impl.halfWeights", laid_loop_example_g00016_impl_halfWeights)] }
def FnNearestSaid : Prop := fnNearestRow.holds Tryd.pinned (OpenSpec.ofChange fnNearestSpec)

/-- ITS FALSE NEIGHBOUR: 'it returns false'. Refute it at one input. -/
def fnNearestWrong : ChangeSpec := { name := "fnNearest", vars := ["loop.example/g00016/impl.halfWeights"], fn := fun _ => fun
  | [d1, d2, g1] => { results := [.lit (.bool false)], args := [d1, d2], vars := [g1] }
  | _ => none }
def FnNearestWrongFalsely : Prop := fnNearestRow.holds Tryd.pinned (OpenSpec.ofChange fnNearestWrong)

/-- 'laws.FnSmall': WHATEVER THE INPUT: true; the input reads as it did. -/
def fnSmallSpec : ChangeSpec := { name := "fnSmall", vars := ["loop.example/g00016/impl.smallWaves", "loop.example/g00016/impl.coarseFactors", "loop.example/g00016/impl.fineFactors"], fn := fun _ => fun
  | [d, g1, g2, g3] => { results := [.lit (.bool true)], args := [d], vars := [g1, g2, g3] }
  | _ => none }
def fnSmallRow : OpenClaim := { program := "ytpofmcepjmbmcaadoor", sum := "587fca60b08068e32703d6d26aeb266cc7b76d227fd3335d3836288b282a27e9", func := "loop.example/g00016/laws.FnSmall", spec := "fnSmall", unfollowed := true, recurses := true, named := ["loop.example/g00016/impl.smallWaves", "loop.example/g00016/impl.coarseFactors", "loop.example/g00016/impl.fineFactors"], apart := false, laid := [("loop.example/g00016/impl.smallWaves", laid_loop_example_g00016_impl_smallWaves), ("loop.example/g00016/impl.coarseFactors", laid_loop_example_g00016_impl_coarseFactors), ("loop.example/g00016/impl.fineFactors", laid_loop_example_g00016_impl_fineFactors)] }
def FnSmallSaid : Prop := fnSmallRow.holds Tryd.pinned (OpenSpec.ofChange fnSmallSpec)

/-- ITS FALSE NEIGHBOUR: 'it returns false'. Refute it at one input. -/
def fnSmallWrong : ChangeSpec := { name := "fnSmall", vars := ["loop.example/g00016/impl.smallWaves", "loop.example/g00016/impl.coarseFactors", "loop.example/g00016/impl.fineFactors"], fn := fun _ => fun
  | [d, g1, g2, g3] => { results := [.lit (.bool false)], args := [d], vars := [g1, g2, g3] }
  | _ => none }
def FnSmallWrongFalsely : Prop := fnSmallRow.holds Tryd.pinned (OpenSpec.ofChange fnSmallWrong)

/-- 'laws.FnExactMoved': WHATEVER THE INPUT: true; the input reads as it did. -/
def fnExactMovedSpec : ChangeSpec := { name := "fnExactMoved", vars := ["loop.example/g00016/impl.halfWeights"], fn := fun _ => fun
  | [d1, d2, d3, d4, g1] => { results := [.lit (.bool true)], args := [d1, d2, d3, d4], vars := [g1] }
  | _ => none }
def fnExactMovedRow : OpenClaim := { program := "ytpofmcepjmbmcaadoor", sum := "587fca60b08068e32703d6d26aeb266cc7b76d227fd3335d3836288b282a27e9", func := "loop.example/g00016/laws.FnExactMoved", spec := "fnExactMoved", named := ["loop.example/g00016/impl.halfWeights"], apart := false, laid := [("loop.example/g00016/impl.halfWeights", laid_loop_example_g00016_impl_halfWeights)] }
def FnExactMovedSaid : Prop := fnExactMovedRow.holds Tryd.pinned (OpenSpec.ofChange fnExactMovedSpec)

/-- ITS FALSE NEIGHBOUR: 'it returns false'. Refute it at one input. -/
def fnExactMovedWrong : ChangeSpec := { name := "fnExactMoved", vars := ["loop.example/g00016/impl.halfWeights"], fn := fun _ => fun
  | [d1, d2, d3, d4, g1] => { results := [.lit (.bool false)], args := [d1, d2, d3, d4], vars := [g1] }
  | _ => none }
def FnExactMovedWrongFalsely : Prop := fnExactMovedRow.holds Tryd.pinned (OpenSpec.ofChange fnExactMovedWrong)

/-- 'laws.FnExactBestMotion': WHATEVER THE INPUT: true; the input reads as it did. -/
def fnExactBestMotionSpec : ChangeSpec := { name := "fnExactBestMotion", vars := ["loop.example/g00016/impl.halfWeights"], fn := fun _ => fun
  | [d1, d2, d3, d4, d5, d6, d7, g1] => { results := [.lit (.bool true)], args := [d1, d2, d3, d4, d5, d6, d7], vars := [g1] }
  | _ => none }
def fnExactBestMotionRow : OpenClaim := { program := "ytpofmcepjmbmcaadoor", sum := "587fca60b08068e32703d6d26aeb266cc7b76d227fd3335d3836288b282a27e9", func := "loop.example/g00016/laws.FnExactBestMotion", spec := "fnExactBestMotion", named := ["loop.example/g00016/impl.halfWeights"], apart := false, laid := [("loop.example/g00016/impl.halfWeights", laid_loop_example_g00016_impl_halfWeights)] }
def FnExactBestMotionSaid : Prop := fnExactBestMotionRow.holds Tryd.pinned (OpenSpec.ofChange fnExactBestMotionSpec)

/-- ITS FALSE NEIGHBOUR: 'it returns false'. Refute it at one input. -/
def fnExactBestMotionWrong : ChangeSpec := { name := "fnExactBestMotion", vars := ["loop.example/g00016/impl.halfWeights"], fn := fun _ => fun
  | [d1, d2, d3, d4, d5, d6, d7, g1] => { results := [.lit (.bool false)], args := [d1, d2, d3, d4, d5, d6, d7], vars := [g1] }
  | _ => none }
def FnExactBestMotionWrongFalsely : Prop := fnExactBestMotionRow.holds Tryd.pinned (OpenSpec.ofChange fnExactBestMotionWrong)

/-- 'laws.FnExactSmallForward': WHATEVER THE INPUT: true; the input reads as it did. -/
def fnExactSmallForwardSpec : ChangeSpec := { name := "fnExactSmallForward", vars := ["loop.example/g00016/impl.smallWaves"], fn := fun _ => fun
  | [d, g1] => { results := [.lit (.bool true)], args := [d], vars := [g1] }
  | _ => none }
def fnExactSmallForwardRow : OpenClaim := { program := "ytpofmcepjmbmcaadoor", sum := "587fca60b08068e32703d6d26aeb266cc7b76d227fd3335d3836288b282a27e9", func := "loop.example/g00016/laws.FnExactSmallForward", spec := "fnExactSmallForward", unfollowed := true, recurses := true, named := ["loop.example/g00016/impl.smallWaves"], apart := false, laid := [("loop.example/g00016/impl.smallWaves", laid_loop_example_g00016_impl_smallWaves)] }
def FnExactSmallForwardSaid : Prop := fnExactSmallForwardRow.holds Tryd.pinned (OpenSpec.ofChange fnExactSmallForwardSpec)

/-- ITS FALSE NEIGHBOUR: 'it returns false'. Refute it at one input. -/
def fnExactSmallForwardWrong : ChangeSpec := { name := "fnExactSmallForward", vars := ["loop.example/g00016/impl.smallWaves"], fn := fun _ => fun
  | [d, g1] => { results := [.lit (.bool false)], args := [d], vars := [g1] }
  | _ => none }
def FnExactSmallForwardWrongFalsely : Prop := fnExactSmallForwardRow.holds Tryd.pinned (OpenSpec.ofChange fnExactSmallForwardWrong)

/-- 'laws.FnExactSmallCoarse': WHATEVER THE INPUT: true; the input reads as it did. -/
def fnExactSmallCoarseSpec : ChangeSpec := { name := "fnExactSmallCoarse", vars := ["loop.example/g00016/impl.coarseFactors"], fn := fun _ => fun
  | [d1, d2, g1] => { results := [.lit (.bool true)], args := [d1, d2], vars := [g1] }
  | _ => none }
def fnExactSmallCoarseRow : OpenClaim := { program := "ytpofmcepjmbmcaadoor", sum := "587fca60b08068e32703d6d26aeb266cc7b76d227fd3335d3836288b282a27e9", func := "loop.example/g00016/laws.FnExactSmallCoarse", spec := "fnExactSmallCoarse", unfollowed := true, recurses := true, named := ["loop.example/g00016/impl.coarseFactors"], apart := false, laid := [("loop.example/g00016/impl.coarseFactors", laid_loop_example_g00016_impl_coarseFactors)] }
def FnExactSmallCoarseSaid : Prop := fnExactSmallCoarseRow.holds Tryd.pinned (OpenSpec.ofChange fnExactSmallCoarseSpec)

/-- ITS FALSE NEIGHBOUR: 'it returns false'. Refute it at one input. -/
def fnExactSmallCoarseWrong : ChangeSpec := { name := "fnExactSmallCoarse", vars := ["loop.example/g00016/impl.coarseFactors"], fn := fun _ => fun
  | [d1, d2, g1] => { results := [.lit (.bool false)], args := [d1, d2], vars := [g1] }
  | _ => none }
def FnExactSmallCoarseWrongFalsely : Prop := fnExactSmallCoarseRow.holds Tryd.pinned (OpenSpec.ofChange fnExactSmallCoarseWrong)

/-- 'laws.FnExactSmallFine': WHATEVER THE INPUT: true; the input reads as it did. -/
def fnExactSmallFineSpec : ChangeSpec := { name := "fnExactSmallFine", vars := ["loop.example/g00016/impl.fineFactors"], fn := fun _ => fun
  | [d1, d2, g1] => { results := [.lit (.bool true)], args := [d1, d2], vars := [g1] }
  | _ => none }
def fnExactSmallFineRow : OpenClaim := { program := "ytpofmcepjmbmcaadoor", sum := "587fca60b08068e32703d6d26aeb266cc7b76d227fd3335d3836288b282a27e9", func := "loop.example/g00016/laws.FnExactSmallFine", spec := "fnExactSmallFine", unfollowed := true, recurses := true, named := ["loop.example/g00016/impl.fineFactors"], apart := false, laid := [("loop.example/g00016/impl.fineFactors", laid_loop_example_g00016_impl_fineFactors)] }
def FnExactSmallFineSaid : Prop := fnExactSmallFineRow.holds Tryd.pinned (OpenSpec.ofChange fnExactSmallFineSpec)

/-- ITS FALSE NEIGHBOUR: 'it returns false'. Refute it at one input. -/
def fnExactSmallFineWrong : ChangeSpec := { name := "fnExactSmallFine", vars := ["loop.example/g00016/impl.fineFactors"], fn := fun _ => fun
  | [d1, d2, g1] => { results := [.lit (.bool false)], args := [d1, d2], vars := [g1] }
  | _ => none }
def FnExactSmallFineWrongFalsely : Prop := fnExactSmallFineRow.holds Tryd.pinned (OpenSpec.ofChange fnExactSmallFineWrong)

/- THE SECOND FORM. 'bulk': how many values and letters a reading holds, each counted each time it is reached (what is shared counts as often as it is met; a slice's spare places count too). A statement '..UptoSaid' is the law's where the arguments, and the package variables that the reading takes, are together of bulk at most 1048576: NARROWER than '..Said'. Prove '..Said' where nothing that the law and all that it calls make is longer than what came in: it says more and counts as full. Else prove '..UptoSaid'. A law counts once. -/
mutual
def uptoBulk {H : Type} : DataW H → Nat
  | .lit (.string bytes) => bytes.length + 1
  | .lit _ => 1
  | .nil => 1
  | .ptr d => uptoBulk d + 1
  | .slice elems spare => uptoBulkAll elems + uptoBulkAll spare + 1
  | .agg parts => uptoBulkAll parts + 1
  | .iface _ d => uptoBulk d + 1
  | .map entries => uptoBulkEntries entries + 1
  | .held _ => 1
def uptoBulkAll {H : Type} : List (DataW H) → Nat
  | [] => 0
  | d :: r => uptoBulk d + uptoBulkAll r
def uptoBulkEntries {H : Type} : List (Lit × DataW H) → Nat
  | [] => 0
  | x :: r => uptoBulkEntry x + uptoBulkEntries r
def uptoBulkEntry {H : Type} : Lit × DataW H → Nat
  | (.string bytes, d) => bytes.length + uptoBulk d + 1
  | (_, d) => uptoBulk d + 1
 end
def uptoSmall : (H : Type) → List (DataW H) → Bool := fun _ ds => decide (uptoBulkAll ds ≤ 1048576)
def OpenSpec.upto (s : _root_.Go.ChangeSpec) : _root_.Go.OpenSpec := { _root_.Go.OpenSpec.ofChange s with cond := some uptoSmall }

/-- 'laws.FnMoved', WHERE WHAT IT READS IS OF BULK AT MOST 1048576: true; the input reads as it did. -/
def fnMovedUptoRow : OpenClaim := { program := "ytpofmcepjmbmcaadoor", sum := "587fca60b08068e32703d6d26aeb266cc7b76d227fd3335d3836288b282a27e9", func := "loop.example/g00016/laws.FnMoved", spec := "fnMoved", named := ["loop.example/g00016/impl.halfWeights"], apart := false, laid := [("loop.example/g00016/impl.halfWeights", laid_loop_example_g00016_impl_halfWeights)], narrowed := true }
def FnMovedUptoSaid : Prop := fnMovedUptoRow.holds Tryd.pinned (OpenSpec.upto fnMovedSpec)

/-- 'laws.FnNearest', WHERE WHAT IT READS IS OF BULK AT MOST 1048576: true; the input reads as it did. -/
def fnNearestUptoRow : OpenClaim := { program := "ytpofmcepjmbmcaadoor", sum := "587fca60b08068e32703d6d26aeb266cc7b76d227fd3335d3836288b282a27e9", func := "loop.example/g00016/laws.FnNearest", spec := "fnNearest", named := ["loop.example/g00016/impl.halfWeights"], apart := false, laid := [("loop.example/g00016/impl.halfWeights", laid_loop_example_g00016_impl_halfWeights)], narrowed := true }
def FnNearestUptoSaid : Prop := fnNearestUptoRow.holds Tryd.pinned (OpenSpec.upto fnNearestSpec)

/-- 'laws.FnSmall', WHERE WHAT IT READS IS OF BULK AT MOST 1048576: true; the input reads as it did. -/
def fnSmallUptoRow : OpenClaim := { program := "ytpofmcepjmbmcaadoor", sum := "587fca60b08068e32703d6d26aeb266cc7b76d227fd3335d3836288b282a27e9", func := "loop.example/g00016/laws.FnSmall", spec := "fnSmall", unfollowed := true, recurses := true, named := ["loop.example/g00016/impl.smallWaves", "loop.example/g00016/impl.coarseFactors", "loop.example/g00016/impl.fineFactors"], apart := false, laid := [("loop.example/g00016/impl.smallWaves", laid_loop_example_g00016_impl_smallWaves), ("loop.example/g00016/impl.coarseFactors", laid_loop_example_g00016_impl_coarseFactors), ("loop.example/g00016/impl.fineFactors", laid_loop_example_g00016_impl_fineFactors)], narrowed := true }
def FnSmallUptoSaid : Prop := fnSmallUptoRow.holds Tryd.pinned (OpenSpec.upto fnSmallSpec)

/-- 'laws.FnExactMoved', WHERE WHAT IT READS IS OF BULK AT MOST 1048576: true; the input reads as it did. -/
def fnExactMovedUptoRow : OpenClaim := { program := "ytpofmcepjmbmcaadoor", sum := "587fca60b08068e32703d6d26aeb266cc7b76d227fd3335d3836288b282a27e9", func := "loop.example/g00016/laws.FnExactMoved", spec := "fnExactMoved", named := ["loop.example/g00016/impl.halfWeights"], apart := false, laid := [("loop.example/g00016/impl.halfWeights", laid_loop_example_g00016_impl_halfWeights)], narrowed := true }
def FnExactMovedUptoSaid : Prop := fnExactMovedUptoRow.holds Tryd.pinned (OpenSpec.upto fnExactMovedSpec)

/-- 'laws.FnExactBestMotion', WHERE WHAT IT READS IS OF BULK AT MOST 1048576: true; the input reads as it did. -/
def fnExactBestMotionUptoRow : OpenClaim := { program := "ytpofmcepjmbmcaadoor", sum := "587fca60b08068e32703d6d26aeb266cc7b76d227fd3335d3836288b282a27e9", func := "loop.example/g00016/laws.FnExactBestMotion", spec := "fnExactBestMotion", named := ["loop.example/g00016/impl.halfWeights"], apart := false, laid := [("loop.example/g00016/impl.halfWeights", laid_loop_example_g00016_impl_halfWeights)], narrowed := true }
def FnExactBestMotionUptoSaid : Prop := fnExactBestMotionUptoRow.holds Tryd.pinned (OpenSpec.upto fnExactBestMotionSpec)

/-- 'laws.FnExactSmallForward', WHERE WHAT IT READS IS OF BULK AT MOST 1048576: true; the input reads as it did. -/
def fnExactSmallForwardUptoRow : OpenClaim := { program := "ytpofmcepjmbmcaadoor", sum := "587fca60b08068e32703d6d26aeb266cc7b76d227fd3335d3836288b282a27e9", func := "loop.example/g00016/laws.FnExactSmallForward", spec := "fnExactSmallForward", unfollowed := true, recurses := true, named := ["loop.example/g00016/impl.smallWaves"], apart := false, laid := [("loop.example/g00016/impl.smallWaves", laid_loop_example_g00016_impl_smallWaves)], narrowed := true }
def FnExactSmallForwardUptoSaid : Prop := fnExactSmallForwardUptoRow.holds Tryd.pinned (OpenSpec.upto fnExactSmallForwardSpec)

/-- 'laws.FnExactSmallCoarse', WHERE WHAT IT READS IS OF BULK AT MOST 1048576: true; the input reads as it did. -/
def fnExactSmallCoarseUptoRow : OpenClaim := { program := "ytpofmcepjmbmcaadoor", sum := "587fca60b08068e32703d6d26aeb266cc7b76d227fd3335d3836288b282a27e9", func := "loop.example/g00016/laws.FnExactSmallCoarse", spec := "fnExactSmallCoarse", unfollowed := true, recurses := true, named := ["loop.example/g00016/impl.coarseFactors"], apart := false, laid := [("loop.example/g00016/impl.coarseFactors", laid_loop_example_g00016_impl_coarseFactors)], narrowed := true }
def FnExactSmallCoarseUptoSaid : Prop := fnExactSmallCoarseUptoRow.holds Tryd.pinned (OpenSpec.upto fnExactSmallCoarseSpec)

/-- 'laws.FnExactSmallFine', WHERE WHAT IT READS IS OF BULK AT MOST 1048576: true; the input reads as it did. -/
def fnExactSmallFineUptoRow : OpenClaim := { program := "ytpofmcepjmbmcaadoor", sum := "587fca60b08068e32703d6d26aeb266cc7b76d227fd3335d3836288b282a27e9", func := "loop.example/g00016/laws.FnExactSmallFine", spec := "fnExactSmallFine", unfollowed := true, recurses := true, named := ["loop.example/g00016/impl.fineFactors"], apart := false, laid := [("loop.example/g00016/impl.fineFactors", laid_loop_example_g00016_impl_fineFactors)], narrowed := true }
def FnExactSmallFineUptoSaid : Prop := fnExactSmallFineUptoRow.holds Tryd.pinned (OpenSpec.upto fnExactSmallFineSpec)

end Rows
end Go.Proofs.YtpofmcepjmbmcaaDoor
