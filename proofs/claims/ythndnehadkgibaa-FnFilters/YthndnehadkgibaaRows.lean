/-
  No cell of these rows narrows 'for every input' (looked for: loops, veiled, ifaces, maps, wideKeys, modest, calm, conditions, laid).
  DERIVED. THE GIVEN ROWS OF THIS SEAT. 8 by the template 'for every input the law returns true; each argument reads behind the call as it read before'; 0 by the template 'total and deterministic' (their statements: YthndnehadkgibaaTotals.lean).
  GIVEN WITH THE SEED: the statements are not yours to turn. If you find one false, say at which input.
  Laid BY PROGRAM, IN A SANDBOX (cutbox-rows.mjs): the forced cells as the released guide's own fill.sh prints them over the translation bb188cd85128a463… (all of the seat's roots in one cut). By AI agents, Wed Nov 11 2026. No macro, syntax, notation, axiom, sorry.
-/
import Derived.Test.YthndnehadkgibaaChecked
import GoSem.Claim
import GoSem.ClaimJoined
import GoSem.ClaimMapViews
import Derived.JoinedTies
import Derived.KernelRfl
namespace Go.Proofs.Ythndnehadkgibaa
/- THE CELL 'sum', in the pinned program and in every row, IS THE sha256 OF THE DUMP (.gsa) THAT YthndnehadkgibaaProg.lean LOADS. Nothing in Lean hashes anything: it is a label: what it is worth is what the hold of that sum in a sandbox is worth. -/
noncomputable def Try.pinned : Pinned := { name := "ythndnehadkgibaa", sum := "bb188cd85128a4638e4db5568d785991409a7a6ad87675c76a087132e02e85b8", checked := Try.checked }
namespace Rows
def none {H : Type} : Left H := { results := [], args := [] }

/-- 'laws.FnFilters': WHATEVER THE INPUT: true; the input reads as it did. -/
def fnFiltersSpec : ChangeSpec := { name := "fnFilters", fn := fun _ => fun
  | [d] => { results := [.lit (.bool true)], args := [d] }
  | _ => none }
def fnFiltersRow : OpenClaim := { program := "ythndnehadkgibaa", sum := "bb188cd85128a4638e4db5568d785991409a7a6ad87675c76a087132e02e85b8", func := "loop.example/g00016/laws.FnFilters", spec := "fnFilters", unfollowed := true, recurses := true, apart := false }
def FnFiltersSaid : Prop := fnFiltersRow.holds Try.pinned (OpenSpec.ofChange fnFiltersSpec)

/-- ITS FALSE NEIGHBOUR: 'it returns false'. Refute it at one input. -/
def fnFiltersWrong : ChangeSpec := { name := "fnFilters", fn := fun _ => fun
  | [d] => { results := [.lit (.bool false)], args := [d] }
  | _ => none }
def FnFiltersWrongFalsely : Prop := fnFiltersRow.holds Try.pinned (OpenSpec.ofChange fnFiltersWrong)

/-- 'laws.FnRows': WHATEVER THE INPUT: true; the input reads as it did. -/
def fnRowsSpec : ChangeSpec := { name := "fnRows", fn := fun _ => fun
  | [d] => { results := [.lit (.bool true)], args := [d] }
  | _ => none }
def fnRowsRow : OpenClaim := { program := "ythndnehadkgibaa", sum := "bb188cd85128a4638e4db5568d785991409a7a6ad87675c76a087132e02e85b8", func := "loop.example/g00016/laws.FnRows", spec := "fnRows", apart := false }
def FnRowsSaid : Prop := fnRowsRow.holds Try.pinned (OpenSpec.ofChange fnRowsSpec)

/-- ITS FALSE NEIGHBOUR: 'it returns false'. Refute it at one input. -/
def fnRowsWrong : ChangeSpec := { name := "fnRows", fn := fun _ => fun
  | [d] => { results := [.lit (.bool false)], args := [d] }
  | _ => none }
def FnRowsWrongFalsely : Prop := fnRowsRow.holds Try.pinned (OpenSpec.ofChange fnRowsWrong)

/-- 'laws.FnExactGoodImage': WHATEVER THE INPUT: true; the input reads as it did. -/
def fnExactGoodImageSpec : ChangeSpec := { name := "fnExactGoodImage", fn := fun _ => fun
  | [d] => { results := [.lit (.bool true)], args := [d] }
  | _ => none }
def fnExactGoodImageRow : OpenClaim := { program := "ythndnehadkgibaa", sum := "bb188cd85128a4638e4db5568d785991409a7a6ad87675c76a087132e02e85b8", func := "loop.example/g00016/laws.FnExactGoodImage", spec := "fnExactGoodImage", apart := false }
def FnExactGoodImageSaid : Prop := fnExactGoodImageRow.holds Try.pinned (OpenSpec.ofChange fnExactGoodImageSpec)

/-- ITS FALSE NEIGHBOUR: 'it returns false'. Refute it at one input. -/
def fnExactGoodImageWrong : ChangeSpec := { name := "fnExactGoodImage", fn := fun _ => fun
  | [d] => { results := [.lit (.bool false)], args := [d] }
  | _ => none }
def FnExactGoodImageWrongFalsely : Prop := fnExactGoodImageRow.holds Try.pinned (OpenSpec.ofChange fnExactGoodImageWrong)

/-- 'laws.FnExactPackRow': WHATEVER THE INPUT: true; the input reads as it did. -/
def fnExactPackRowSpec : ChangeSpec := { name := "fnExactPackRow", fn := fun _ => fun
  | [d1, d2] => { results := [.lit (.bool true)], args := [d1, d2] }
  | _ => none }
def fnExactPackRowRow : OpenClaim := { program := "ythndnehadkgibaa", sum := "bb188cd85128a4638e4db5568d785991409a7a6ad87675c76a087132e02e85b8", func := "loop.example/g00016/laws.FnExactPackRow", spec := "fnExactPackRow", apart := false }
def FnExactPackRowSaid : Prop := fnExactPackRowRow.holds Try.pinned (OpenSpec.ofChange fnExactPackRowSpec)

/-- ITS FALSE NEIGHBOUR: 'it returns false'. Refute it at one input. -/
def fnExactPackRowWrong : ChangeSpec := { name := "fnExactPackRow", fn := fun _ => fun
  | [d1, d2] => { results := [.lit (.bool false)], args := [d1, d2] }
  | _ => none }
def FnExactPackRowWrongFalsely : Prop := fnExactPackRowRow.holds Try.pinned (OpenSpec.ofChange fnExactPackRowWrong)

/-- 'laws.FnExactUnpackRow': WHATEVER THE INPUT: true; the input reads as it did. -/
def fnExactUnpackRowSpec : ChangeSpec := { name := "fnExactUnpackRow", fn := fun _ => fun
  | [d1, d2, d3] => { results := [.lit (.bool true)], args := [d1, d2, d3] }
  | _ => none }
def fnExactUnpackRowRow : OpenClaim := { program := "ythndnehadkgibaa", sum := "bb188cd85128a4638e4db5568d785991409a7a6ad87675c76a087132e02e85b8", func := "loop.example/g00016/laws.FnExactUnpackRow", spec := "fnExactUnpackRow", apart := false }
def FnExactUnpackRowSaid : Prop := fnExactUnpackRowRow.holds Try.pinned (OpenSpec.ofChange fnExactUnpackRowSpec)

/-- ITS FALSE NEIGHBOUR: 'it returns false'. Refute it at one input. -/
def fnExactUnpackRowWrong : ChangeSpec := { name := "fnExactUnpackRow", fn := fun _ => fun
  | [d1, d2, d3] => { results := [.lit (.bool false)], args := [d1, d2, d3] }
  | _ => none }
def FnExactUnpackRowWrongFalsely : Prop := fnExactUnpackRowRow.holds Try.pinned (OpenSpec.ofChange fnExactUnpackRowWrong)

/-- 'laws.FnExactFilterRow': WHATEVER THE INPUT: true; the input reads as it did. -/
def fnExactFilterRowSpec : ChangeSpec := { name := "fnExactFilterRow", fn := fun _ => fun
  | [d1, d2, d3, d4] => { results := [.lit (.bool true)], args := [d1, d2, d3, d4] }
  | _ => none }
def fnExactFilterRowRow : OpenClaim := { program := "ythndnehadkgibaa", sum := "bb188cd85128a4638e4db5568d785991409a7a6ad87675c76a087132e02e85b8", func := "loop.example/g00016/laws.FnExactFilterRow", spec := "fnExactFilterRow", unfollowed := true, recurses := true, apart := false }
def FnExactFilterRowSaid : Prop := fnExactFilterRowRow.holds Try.pinned (OpenSpec.ofChange fnExactFilterRowSpec)

/-- ITS FALSE NEIGHBOUR: 'it returns false'. Refute it at one input. -/
def fnExactFilterRowWrong : ChangeSpec := { name := "fnExactFilterRow", fn := fun _ => fun
  | [d1, d2, d3, d4] => { results := [.lit (.bool false)], args := [d1, d2, d3, d4] }
  | _ => none }
def FnExactFilterRowWrongFalsely : Prop := fnExactFilterRowRow.holds Try.pinned (OpenSpec.ofChange fnExactFilterRowWrong)

/-- 'laws.FnExactUnfilterRow': WHATEVER THE INPUT: true; the input reads as it did. -/
def fnExactUnfilterRowSpec : ChangeSpec := { name := "fnExactUnfilterRow", fn := fun _ => fun
  | [d1, d2, d3, d4] => { results := [.lit (.bool true)], args := [d1, d2, d3, d4] }
  | _ => none }
def fnExactUnfilterRowRow : OpenClaim := { program := "ythndnehadkgibaa", sum := "bb188cd85128a4638e4db5568d785991409a7a6ad87675c76a087132e02e85b8", func := "loop.example/g00016/laws.FnExactUnfilterRow", spec := "fnExactUnfilterRow", unfollowed := true, recurses := true, apart := false }
def FnExactUnfilterRowSaid : Prop := fnExactUnfilterRowRow.holds Try.pinned (OpenSpec.ofChange fnExactUnfilterRowSpec)

/-- ITS FALSE NEIGHBOUR: 'it returns false'. Refute it at one input. -/
def fnExactUnfilterRowWrong : ChangeSpec := { name := "fnExactUnfilterRow", fn := fun _ => fun
  | [d1, d2, d3, d4] => { results := [.lit (.bool false)], args := [d1, d2, d3, d4] }
  | _ => none }
def FnExactUnfilterRowWrongFalsely : Prop := fnExactUnfilterRowRow.holds Try.pinned (OpenSpec.ofChange fnExactUnfilterRowWrong)

/-- 'laws.FnExactBestKind': WHATEVER THE INPUT: true; the input reads as it did. -/
def fnExactBestKindSpec : ChangeSpec := { name := "fnExactBestKind", fn := fun _ => fun
  | [d1, d2, d3] => { results := [.lit (.bool true)], args := [d1, d2, d3] }
  | _ => none }
def fnExactBestKindRow : OpenClaim := { program := "ythndnehadkgibaa", sum := "bb188cd85128a4638e4db5568d785991409a7a6ad87675c76a087132e02e85b8", func := "loop.example/g00016/laws.FnExactBestKind", spec := "fnExactBestKind", unfollowed := true, recurses := true, apart := false }
def FnExactBestKindSaid : Prop := fnExactBestKindRow.holds Try.pinned (OpenSpec.ofChange fnExactBestKindSpec)

/-- ITS FALSE NEIGHBOUR: 'it returns false'. Refute it at one input. -/
def fnExactBestKindWrong : ChangeSpec := { name := "fnExactBestKind", fn := fun _ => fun
  | [d1, d2, d3] => { results := [.lit (.bool false)], args := [d1, d2, d3] }
  | _ => none }
def FnExactBestKindWrongFalsely : Prop := fnExactBestKindRow.holds Try.pinned (OpenSpec.ofChange fnExactBestKindWrong)

/- THE SECOND FORM. 'bulk': how many values and letters a reading holds, each counted each time it is reached (what is shared counts as often as it is met; a slice's spare places count too). A statement '..UptoSaid' is the law's where the arguments, and the package variables that the reading takes, are together of bulk at most 1048576: NARROWER than '..Said'. Prove '..Said' where nothing that the law and all that it calls make is longer than what came in: it says more and counts as full. Else prove '..UptoSaid'. A law counts once. -/
mutual
def uptoBulk {H : Type} : DataW H → Nat
  | .lit (.string bytes) => bytes.length + 1
  | .lit _ => 1
  | .nil => 1
  | .ptr d => uptoBulk d + 1
  | .slice elems spare => uptoBulkAll elems + uptoBulkAll spare + 1
  | .agg parts => uptoBulkAll parts + 1
  | .iface _ d => uptoBulk d + 1
  | .map entries => uptoBulkEntries entries + 1
  | .held _ => 1
def uptoBulkAll {H : Type} : List (DataW H) → Nat
  | [] => 0
  | d :: r => uptoBulk d + uptoBulkAll r
def uptoBulkEntries {H : Type} : List (Lit × DataW H) → Nat
  | [] => 0
  | x :: r => uptoBulkEntry x + uptoBulkEntries r
def uptoBulkEntry {H : Type} : Lit × DataW H → Nat
  | (.string bytes, d) => bytes.length + uptoBulk d + 1
  | (_, d) => uptoBulk d + 1
 end
def uptoSmall : (H : Type) → List (DataW H) → Bool := fun _ ds => decide (uptoBulkAll ds ≤ 1048576)
def OpenSpec.upto (s : _root_.Go.ChangeSpec) : _root_.Go.OpenSpec := { _root_.Go.OpenSpec.ofChange s with cond := some uptoSmall }

/-- 'laws.FnFilters', WHERE WHAT IT READS IS OF BULK AT MOST 1048576: true; the input reads as it did. -/
def fnFiltersUptoRow : OpenClaim := { program := "ythndnehadkgibaa", sum := "bb188cd85128a4638e4db5568d785991409a7a6ad87675c76a087132e02e85b8", func := "loop.example/g00016/laws.FnFilters", spec := "fnFilters", unfollowed := true, recurses := true, apart := false, narrowed := true }
def FnFiltersUptoSaid : Prop := fnFiltersUptoRow.holds Try.pinned (OpenSpec.upto fnFiltersSpec)

/-- 'laws.FnRows', WHERE WHAT IT READS IS OF BULK AT MOST 1048576: true; the input reads as it did. -/
def fnRowsUptoRow : OpenClaim := { program := "ythndnehadkgibaa", sum := "bb188cd85128a4638e4db5568d785991409a7a6ad87675c76a087132e02e85b8", func := "loop.example/g00016/laws.FnRows", spec := "fnRows", apart := false, narrowed := true }
def FnRowsUptoSaid : Prop := fnRowsUptoRow.holds Try.pinned (OpenSpec.upto fnRowsSpec)

/-- 'laws.FnExactGoodImage', WHERE WHAT IT READS IS OF BULK AT MOST 1048576: true; the input reads as it did. -/
def fnExactGoodImageUptoRow : OpenClaim := { program := "ythndnehadkgibaa", sum := "bb188cd85128a4638e4db5568d785991409a7a6ad87675c76a087132e02e85b8", func := "loop.example/g00016/laws.FnExactGoodImage", spec := "fnExactGoodImage", apart := false, narrowed := true }
def FnExactGoodImageUptoSaid : Prop := fnExactGoodImageUptoRow.holds Try.pinned (OpenSpec.upto fnExactGoodImageSpec)

/-- 'laws.FnExactPackRow', WHERE WHAT IT READS IS OF BULK AT MOST 1048576: true; the input reads as it did. -/
def fnExactPackRowUptoRow : OpenClaim := { program := "ythndnehadkgibaa", sum := "bb188cd85128a4638e4db5568d785991409a7a6ad87675c76a087132e02e85b8", func := "loop.example/g00016/laws.FnExactPackRow", spec := "fnExactPackRow", apart := false, narrowed := true }
def FnExactPackRowUptoSaid : Prop := fnExactPackRowUptoRow.holds Try.pinned (OpenSpec.upto fnExactPackRowSpec)

/-- 'laws.FnExactUnpackRow', WHERE WHAT IT READS IS OF BULK AT MOST 1048576: true; the input reads as it did. -/
def fnExactUnpackRowUptoRow : OpenClaim := { program := "ythndnehadkgibaa", sum := "bb188cd85128a4638e4db5568d785991409a7a6ad87675c76a087132e02e85b8", func := "loop.example/g00016/laws.FnExactUnpackRow", spec := "fnExactUnpackRow", apart := false, narrowed := true }
def FnExactUnpackRowUptoSaid : Prop := fnExactUnpackRowUptoRow.holds Try.pinned (OpenSpec.upto fnExactUnpackRowSpec)

/-- 'laws.FnExactFilterRow', WHERE WHAT IT READS IS OF BULK AT MOST 1048576: true; the input reads as it did. -/
def fnExactFilterRowUptoRow : OpenClaim := { program := "ythndnehadkgibaa", sum := "bb188cd85128a4638e4db5568d785991409a7a6ad87675c76a087132e02e85b8", func := "loop.example/g00016/laws.FnExactFilterRow", spec := "fnExactFilterRow", unfollowed := true, recurses := true, apart := false, narrowed := true }
def FnExactFilterRowUptoSaid : Prop := fnExactFilterRowUptoRow.holds Try.pinned (OpenSpec.upto fnExactFilterRowSpec)

/-- 'laws.FnExactUnfilterRow', WHERE WHAT IT READS IS OF BULK AT MOST 1048576: true; the input reads as it did. -/
def fnExactUnfilterRowUptoRow : OpenClaim := { program := "ythndnehadkgibaa", sum := "bb188cd85128a4638e4db5568d785991409a7a6ad87675c76a087132e02e85b8", func := "loop.example/g00016/laws.FnExactUnfilterRow", spec := "fnExactUnfilterRow", unfollowed := true, recurses := true, apart := false, narrowed := true }
def FnExactUnfilterRowUptoSaid : Prop := fnExactUnfilterRowUptoRow.holds Try.pinned (OpenSpec.upto fnExactUnfilterRowSpec)

/-- 'laws.FnExactBestKind', WHERE WHAT IT READS IS OF BULK AT MOST 1048576: true; the input reads as it did. -/
def fnExactBestKindUptoRow : OpenClaim := { program := "ythndnehadkgibaa", sum := "bb188cd85128a4638e4db5568d785991409a7a6ad87675c76a087132e02e85b8", func := "loop.example/g00016/laws.FnExactBestKind", spec := "fnExactBestKind", unfollowed := true, recurses := true, apart := false, narrowed := true }
def FnExactBestKindUptoSaid : Prop := fnExactBestKindUptoRow.holds Try.pinned (OpenSpec.upto fnExactBestKindSpec)

end Rows
end Go.Proofs.Ythndnehadkgibaa
