/-
  NARROWER THAN 'FOR EVERY INPUT', by the rows' own cells (each row's printed sentence says how): FnPasses: laid · FnExactSplit: laid · FnExactMerge: laid.
  DERIVED. THE GIVEN ROWS OF THIS SEAT. 3 by the template 'for every input the law returns true; each argument reads behind the call as it read before'; 0 by the template 'total and deterministic' (their statements: YtdochjkkgmkdgaaDoorTotals.lean).
  GIVEN WITH THE SEED: the statements are not yours to turn. If you find one false, say at which input.
  Laid BY PROGRAM, IN A SANDBOX (cutbox-rows.mjs): the forced cells as the released guide's own fill.sh prints them over the translation b9a5c0cfff3b7c8a… (all of the seat's roots in one cut). By AI agents, Wed Nov 11 2026. No macro, syntax, notation, axiom, sorry.
-/
import Derived.Test.YtdochjkkgmkdgaaDoorChecked
import GoSem.Claim
import GoSem.ClaimJoined
import GoSem.ClaimMapViews
import Derived.JoinedTies
import Derived.KernelRfl
namespace Go.Proofs.YtdochjkkgmkdgaaDoor
/- THE CELL 'sum', in the pinned program and in every row, IS THE sha256 OF THE DUMP (.gsa) THAT YtdochjkkgmkdgaaDoorProg.lean LOADS. Nothing in Lean hashes anything: it is a label: what it is worth is what the hold of that sum in a sandbox is worth. -/
noncomputable def Tryd.pinned : Pinned := { name := "ytdochjkkgmkdgaadoor", sum := "b9a5c0cfff3b7c8a3aade1457b195b657c991c63b9a374e1bc446c8a5f20346b", checked := Tryd.checked }
namespace Rows
def none {H : Type} : Left H := { results := [], args := [] }

/- WHAT THE LISTED PACKAGE-LEVEL VARIABLES READ AS WHEN THE CALL BEGINS. Each datum BY PROGRAM (the guide's laid-datum.mjs) off the statement by which the dump's own 'gosem.cut.vars' lays the variable. In a bare row this is a premise. The card (YtdochjkkgmkdgaaDoorCards.lean) ties it to the program's text. -/
def laid_loop_example_g00016_impl_passSteps {H : Type} : DataW H := .agg [.agg [.lit (.int .i64 0), .lit (.int .i64 0), .lit (.int .i64 8), .lit (.int .i64 8), .lit (.int .i64 0), .lit (.int .i64 0)], .agg [.lit (.int .i64 4), .lit (.int .i64 0), .lit (.int .i64 8), .lit (.int .i64 8), .lit (.int .i64 0), .lit (.int .i64 0)], .agg [.lit (.int .i64 0), .lit (.int .i64 4), .lit (.int .i64 4), .lit (.int .i64 8), .lit (.int .i64 0), .lit (.int .i64 0)], .agg [.lit (.int .i64 2), .lit (.int .i64 0), .lit (.int .i64 4), .lit (.int .i64 4), .lit (.int .i64 0), .lit (.int .i64 0)], .agg [.lit (.int .i64 0), .lit (.int .i64 2), .lit (.int .i64 2), .lit (.int .i64 4), .lit (.int .i64 0), .lit (.int .i64 0)], .agg [.lit (.int .i64 1), .lit (.int .i64 0), .lit (.int .i64 2), .lit (.int .i64 2), .lit (.int .i64 0), .lit (.int .i64 0)], .agg [.lit (.int .i64 0), .lit (.int .i64 1), .lit (.int .i64 1), .lit (.int .i64 2), .lit (.int .i64 0), .lit (.int .i64 0)]]

/-- 'laws.FnPasses': WHATEVER THE INPUT: true; the input reads as it did. -/
def fnPassesSpec : ChangeSpec := { name := "fnPasses", vars := ["loop.example/g00016/impl.passSteps"], fn := fun _ => fun
  | [d, g1] => { results := [.lit (.bool true)], args := [d], vars := [g1] }
  | _ => none }
def fnPassesRow : OpenClaim := { program := "ytdochjkkgmkdgaadoor", sum := "b9a5c0cfff3b7c8a3aade1457b195b657c991c63b9a374e1bc446c8a5f20346b", func := "loop.example/g00016/laws.FnPasses", spec := "fnPasses", named := ["loop.example/g00016/impl.passSteps"], apart := false, laid := [("loop.example/g00016/impl.passSteps", laid_loop_example_g00016_impl_passSteps)] }
def FnPassesSaid : Prop := fnPassesRow.holds Tryd.pinned (OpenSpec.ofChange fnPassesSpec)

/-- ITS FALSE NEIGHBOUR: 'it returns false'. Refute it at one input. -/
def fnPassesWrong : ChangeSpec := { name := "fnPasses", vars := ["loop.example/g00016/impl.passSteps"], fn := fun _ => fun
  | [d, g1] => { results := [.lit (.bool false)], args := [d], vars := [g1] }
  | _ => none }
def FnPassesWrongFalsely : Prop := fnPassesRow.holds Tryd.pinned (OpenSpec.ofChange fnPassesWrong)

/-- 'laws.FnExactSplit': WHATEVER THE INPUT: true; the input reads as it did. -/
def fnExactSplitSpec : ChangeSpec := { name := "fnExactSplit", vars := ["loop.example/g00016/impl.passSteps"], fn := fun _ => fun
  | [d, g1] => { results := [.lit (.bool true)], args := [d], vars := [g1] }
  | _ => none }
def fnExactSplitRow : OpenClaim := { program := "ytdochjkkgmkdgaadoor", sum := "b9a5c0cfff3b7c8a3aade1457b195b657c991c63b9a374e1bc446c8a5f20346b", func := "loop.example/g00016/laws.FnExactSplit", spec := "fnExactSplit", named := ["loop.example/g00016/impl.passSteps"], apart := false, laid := [("loop.example/g00016/impl.passSteps", laid_loop_example_g00016_impl_passSteps)] }
def FnExactSplitSaid : Prop := fnExactSplitRow.holds Tryd.pinned (OpenSpec.ofChange fnExactSplitSpec)

/-- ITS FALSE NEIGHBOUR: 'it returns false'. Refute it at one input. -/
def fnExactSplitWrong : ChangeSpec := { name := "fnExactSplit", vars := ["loop.example/g00016/impl.passSteps"], fn := fun _ => fun
  | [d, g1] => { results := [.lit (.bool false)], args := [d], vars := [g1] }
  | _ => none }
def FnExactSplitWrongFalsely : Prop := fnExactSplitRow.holds Tryd.pinned (OpenSpec.ofChange fnExactSplitWrong)

/-- 'laws.FnExactMerge': WHATEVER THE INPUT: true; the input reads as it did. -/
def fnExactMergeSpec : ChangeSpec := { name := "fnExactMerge", vars := ["loop.example/g00016/impl.passSteps"], fn := fun _ => fun
  | [d1, d2, d3, g1] => { results := [.lit (.bool true)], args := [d1, d2, d3], vars := [g1] }
  | _ => none }
def fnExactMergeRow : OpenClaim := { program := "ytdochjkkgmkdgaadoor", sum := "b9a5c0cfff3b7c8a3aade1457b195b657c991c63b9a374e1bc446c8a5f20346b", func := "loop.example/g00016/laws.FnExactMerge", spec := "fnExactMerge", named := ["loop.example/g00016/impl.passSteps"], apart := false, laid := [("loop.example/g00016/impl.passSteps", laid_loop_example_g00016_impl_passSteps)] }
def FnExactMergeSaid : Prop := fnExactMergeRow.holds Tryd.pinned (OpenSpec.ofChange fnExactMergeSpec)

/-- ITS FALSE NEIGHBOUR: 'it returns false'. Refute it at one input. -/
def fnExactMergeWrong : ChangeSpec := { name := "fnExactMerge", vars := ["loop.example/g00016/impl.passSteps"], fn := fun _ => fun
  | [d1, d2, d3, g1] => { results := [.lit (.bool false)], args := [d1, d2, d3], vars := [g1] }
  | _ => none }
def FnExactMergeWrongFalsely : Prop := fnExactMergeRow.holds Tryd.pinned (OpenSpec.ofChange fnExactMergeWrong)

/- THE SECOND FORM. 'bulk': how many values and letters a reading holds, each counted each time it is reached (what is shared counts as often as it is met; a slice's spare places count too). A statement '..UptoSaid' is the law's where the arguments, and the package variables that the reading takes, are together of bulk at most 1048576: NARROWER than '..Said'. Prove '..Said' where nothing that the law and all that it calls make is longer than what came in: it says more and counts as full. Else prove '..UptoSaid'. A law counts once. -/
mutual
def uptoBulk {H : Type} : DataW H → Nat
  | .lit (.string bytes) => bytes.length + 1
  | .lit _ => 1
  | .nil => 1
  | .ptr d => uptoBulk d + 1
  | .slice elems spare => uptoBulkAll elems + uptoBulkAll spare + 1
  | .agg parts => uptoBulkAll parts + 1
  | .iface _ d => uptoBulk d + 1
  | .map entries => uptoBulkEntries entries + 1
  | .held _ => 1
def uptoBulkAll {H : Type} : List (DataW H) → Nat
  | [] => 0
  | d :: r => uptoBulk d + uptoBulkAll r
def uptoBulkEntries {H : Type} : List (Lit × DataW H) → Nat
  | [] => 0
  | x :: r => uptoBulkEntry x + uptoBulkEntries r
def uptoBulkEntry {H : Type} : Lit × DataW H → Nat
  | (.string bytes, d) => bytes.length + uptoBulk d + 1
  | (_, d) => uptoBulk d + 1
 end
def uptoSmall : (H : Type) → List (DataW H) → Bool := fun _ ds => decide (uptoBulkAll ds ≤ 1048576)
def OpenSpec.upto (s : _root_.Go.ChangeSpec) : _root_.Go.OpenSpec := { _root_.Go.OpenSpec.ofChange s with cond := some uptoSmall }

/-- 'laws.FnPasses', WHERE WHAT IT READS IS OF BULK AT MOST 1048576: true; the input reads as it did. -/
def fnPassesUptoRow : OpenClaim := { program := "ytdochjkkgmkdgaadoor", sum := "b9a5c0cfff3b7c8a3aade1457b195b657c991c63b9a374e1bc446c8a5f20346b", func := "loop.example/g00016/laws.FnPasses", spec := "fnPasses", named := ["loop.example/g00016/impl.passSteps"], apart := false, laid := [("loop.example/g00016/impl.passSteps", laid_loop_example_g00016_impl_passSteps)], narrowed := true }
def FnPassesUptoSaid : Prop := fnPassesUptoRow.holds Tryd.pinned (OpenSpec.upto fnPassesSpec)

/-- 'laws.FnExactSplit', WHERE WHAT IT READS IS OF BULK AT MOST 1048576: true; the input reads as it did. -/
def fnExactSplitUptoRow : OpenClaim := { program := "ytdochjkkgmkdgaadoor", sum := "b9a5c0cfff3b7c8a3aade1457b195b657c991c63b9a374e1bc446c8a5f20346b", func := "loop.example/g00016/laws.FnExactSplit", spec := "fnExactSplit", named := ["loop.example/g00016/impl.passSteps"], apart := false, laid := [("loop.example/g00016/impl.passSteps", laid_loop_example_g00016_impl_passSteps)], narrowed := true }
def FnExactSplitUptoSaid : Prop := fnExactSplitUptoRow.holds Tryd.pinned (OpenSpec.upto fnExactSplitSpec)

/-- 'laws.FnExactMerge', WHERE WHAT IT READS IS OF BULK AT MOST 1048576: true; the input reads as it did. -/
def fnExactMergeUptoRow : OpenClaim := { program := "ytdochjkkgmkdgaadoor", sum := "b9a5c0cfff3b7c8a3aade1457b195b657c991c63b9a374e1bc446c8a5f20346b", func := "loop.example/g00016/laws.FnExactMerge", spec := "fnExactMerge", named := ["loop.example/g00016/impl.passSteps"], apart := false, laid := [("loop.example/g00016/impl.passSteps", laid_loop_example_g00016_impl_passSteps)], narrowed := true }
def FnExactMergeUptoSaid : Prop := fnExactMergeUptoRow.holds Tryd.pinned (OpenSpec.upto fnExactMergeSpec)

end Rows
end Go.Proofs.YtdochjkkgmkdgaaDoor
