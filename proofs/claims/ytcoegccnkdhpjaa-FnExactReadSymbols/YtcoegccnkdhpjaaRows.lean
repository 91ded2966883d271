/-
  No cell of these rows narrows 'for every input' (looked for: loops, veiled, ifaces, maps, wideKeys, modest, calm, conditions, laid).
  DERIVED. THE GIVEN ROWS OF THIS SEAT. 9 by the template 'for every input the law returns true; each argument reads behind the call as it read before'; 0 by the template 'total and deterministic' (their statements: YtcoegccnkdhpjaaTotals.lean).
  GIVEN WITH THE SEED: the statements are not yours to turn. If you find one false, say at which input.
  Laid BY PROGRAM, IN A SANDBOX (cutbox-rows.mjs): the forced cells as the released guide's own fill.sh prints them over the translation 2ec3652c7f3ae29c… (all of the seat's roots in one cut). By AI agents, Wed Nov 11 2026. No macro, syntax, notation, axiom, sorry.
-/
import Derived.Test.YtcoegccnkdhpjaaChecked
import GoSem.Claim
import GoSem.ClaimJoined
import GoSem.ClaimMapViews
import Derived.JoinedTies
import Derived.KernelRfl
namespace Go.Proofs.Ytcoegccnkdhpjaa
/- THE CELL 'sum', in the pinned program and in every row, IS THE sha256 OF THE DUMP (.gsa) THAT YtcoegccnkdhpjaaProg.lean LOADS. Nothing in Lean hashes anything: it is a label: what it is worth is what the hold of that sum in a sandbox is worth. -/
noncomputable def Try.pinned : Pinned := { name := "ytcoegccnkdhpjaa", sum := "2ec3652c7f3ae29ce3c7c55ebb9b8ab12dc9bf4dd64ba1811ca2d44f3330b96c", checked := Try.checked }
namespace Rows
def none {H : Type} : Left H := { results := [], args := [] }

/-- 'laws.FnBits': WHATEVER THE INPUT: true; the input reads as it did. -/
def fnBitsSpec : ChangeSpec := { name := "fnBits", fn := fun _ => fun
  | [d] => { results := [.lit (.bool true)], args := [d] }
  | _ => none }
def fnBitsRow : OpenClaim := { program := "ytcoegccnkdhpjaa", sum := "2ec3652c7f3ae29ce3c7c55ebb9b8ab12dc9bf4dd64ba1811ca2d44f3330b96c", func := "loop.example/g00016/laws.FnBits", spec := "fnBits", apart := false }
def FnBitsSaid : Prop := fnBitsRow.holds Try.pinned (OpenSpec.ofChange fnBitsSpec)

/-- ITS FALSE NEIGHBOUR: 'it returns false'. Refute it at one input. -/
def fnBitsWrong : ChangeSpec := { name := "fnBits", fn := fun _ => fun
  | [d] => { results := [.lit (.bool false)], args := [d] }
  | _ => none }
def FnBitsWrongFalsely : Prop := fnBitsRow.holds Try.pinned (OpenSpec.ofChange fnBitsWrong)

/-- 'laws.FnLeast': WHATEVER THE INPUT: true; the input reads as it did. -/
def fnLeastSpec : ChangeSpec := { name := "fnLeast", fn := fun _ => fun
  | [d] => { results := [.lit (.bool true)], args := [d] }
  | _ => none }
def fnLeastRow : OpenClaim := { program := "ytcoegccnkdhpjaa", sum := "2ec3652c7f3ae29ce3c7c55ebb9b8ab12dc9bf4dd64ba1811ca2d44f3330b96c", func := "loop.example/g00016/laws.FnLeast", spec := "fnLeast", unfollowed := true, recurses := true, apart := false }
def FnLeastSaid : Prop := fnLeastRow.holds Try.pinned (OpenSpec.ofChange fnLeastSpec)

/-- ITS FALSE NEIGHBOUR: 'it returns false'. Refute it at one input. -/
def fnLeastWrong : ChangeSpec := { name := "fnLeast", fn := fun _ => fun
  | [d] => { results := [.lit (.bool false)], args := [d] }
  | _ => none }
def FnLeastWrongFalsely : Prop := fnLeastRow.holds Try.pinned (OpenSpec.ofChange fnLeastWrong)

/-- 'laws.FnWords': WHATEVER THE INPUT: true; the input reads as it did. -/
def fnWordsSpec : ChangeSpec := { name := "fnWords", fn := fun _ => fun
  | [d] => { results := [.lit (.bool true)], args := [d] }
  | _ => none }
def fnWordsRow : OpenClaim := { program := "ytcoegccnkdhpjaa", sum := "2ec3652c7f3ae29ce3c7c55ebb9b8ab12dc9bf4dd64ba1811ca2d44f3330b96c", func := "loop.example/g00016/laws.FnWords", spec := "fnWords", apart := false }
def FnWordsSaid : Prop := fnWordsRow.holds Try.pinned (OpenSpec.ofChange fnWordsSpec)

/-- ITS FALSE NEIGHBOUR: 'it returns false'. Refute it at one input. -/
def fnWordsWrong : ChangeSpec := { name := "fnWords", fn := fun _ => fun
  | [d] => { results := [.lit (.bool false)], args := [d] }
  | _ => none }
def FnWordsWrongFalsely : Prop := fnWordsRow.holds Try.pinned (OpenSpec.ofChange fnWordsWrong)

/-- 'laws.FnExactCodeLengths': WHATEVER THE INPUT: true; the input reads as it did. -/
def fnExactCodeLengthsSpec : ChangeSpec := { name := "fnExactCodeLengths", fn := fun _ => fun
  | [d1, d2] => { results := [.lit (.bool true)], args := [d1, d2] }
  | _ => none }
def fnExactCodeLengthsRow : OpenClaim := { program := "ytcoegccnkdhpjaa", sum := "2ec3652c7f3ae29ce3c7c55ebb9b8ab12dc9bf4dd64ba1811ca2d44f3330b96c", func := "loop.example/g00016/laws.FnExactCodeLengths", spec := "fnExactCodeLengths", unfollowed := true, recurses := true, apart := false }
def FnExactCodeLengthsSaid : Prop := fnExactCodeLengthsRow.holds Try.pinned (OpenSpec.ofChange fnExactCodeLengthsSpec)

/-- ITS FALSE NEIGHBOUR: 'it returns false'. Refute it at one input. -/
def fnExactCodeLengthsWrong : ChangeSpec := { name := "fnExactCodeLengths", fn := fun _ => fun
  | [d1, d2] => { results := [.lit (.bool false)], args := [d1, d2] }
  | _ => none }
def FnExactCodeLengthsWrongFalsely : Prop := fnExactCodeLengthsRow.holds Try.pinned (OpenSpec.ofChange fnExactCodeLengthsWrong)

/-- 'laws.FnExactCodeKind': WHATEVER THE INPUT: true; the input reads as it did. -/
def fnExactCodeKindSpec : ChangeSpec := { name := "fnExactCodeKind", fn := fun _ => fun
  | [d] => { results := [.lit (.bool true)], args := [d] }
  | _ => none }
def fnExactCodeKindRow : OpenClaim := { program := "ytcoegccnkdhpjaa", sum := "2ec3652c7f3ae29ce3c7c55ebb9b8ab12dc9bf4dd64ba1811ca2d44f3330b96c", func := "loop.example/g00016/laws.FnExactCodeKind", spec := "fnExactCodeKind", apart := false }
def FnExactCodeKindSaid : Prop := fnExactCodeKindRow.holds Try.pinned (OpenSpec.ofChange fnExactCodeKindSpec)

/-- ITS FALSE NEIGHBOUR: 'it returns false'. Refute it at one input. -/
def fnExactCodeKindWrong : ChangeSpec := { name := "fnExactCodeKind", fn := fun _ => fun
  | [d] => { results := [.lit (.bool false)], args := [d] }
  | _ => none }
def FnExactCodeKindWrongFalsely : Prop := fnExactCodeKindRow.holds Try.pinned (OpenSpec.ofChange fnExactCodeKindWrong)

/-- 'laws.FnExactCodeWords': WHATEVER THE INPUT: true; the input reads as it did. -/
def fnExactCodeWordsSpec : ChangeSpec := { name := "fnExactCodeWords", fn := fun _ => fun
  | [d] => { results := [.lit (.bool true)], args := [d] }
  | _ => none }
def fnExactCodeWordsRow : OpenClaim := { program := "ytcoegccnkdhpjaa", sum := "2ec3652c7f3ae29ce3c7c55ebb9b8ab12dc9bf4dd64ba1811ca2d44f3330b96c", func := "loop.example/g00016/laws.FnExactCodeWords", spec := "fnExactCodeWords", apart := false }
def FnExactCodeWordsSaid : Prop := fnExactCodeWordsRow.holds Try.pinned (OpenSpec.ofChange fnExactCodeWordsSpec)

/-- ITS FALSE NEIGHBOUR: 'it returns false'. Refute it at one input. -/
def fnExactCodeWordsWrong : ChangeSpec := { name := "fnExactCodeWords", fn := fun _ => fun
  | [d] => { results := [.lit (.bool false)], args := [d] }
  | _ => none }
def FnExactCodeWordsWrongFalsely : Prop := fnExactCodeWordsRow.holds Try.pinned (OpenSpec.ofChange fnExactCodeWordsWrong)

/-- 'laws.FnExactCodeCost': WHATEVER THE INPUT: true; the input reads as it did. -/
def fnExactCodeCostSpec : ChangeSpec := { name := "fnExactCodeCost", fn := fun _ => fun
  | [d1, d2] => { results := [.lit (.bool true)], args := [d1, d2] }
  | _ => none }
def fnExactCodeCostRow : OpenClaim := { program := "ytcoegccnkdhpjaa", sum := "2ec3652c7f3ae29ce3c7c55ebb9b8ab12dc9bf4dd64ba1811ca2d44f3330b96c", func := "loop.example/g00016/laws.FnExactCodeCost", spec := "fnExactCodeCost", apart := false }
def FnExactCodeCostSaid : Prop := fnExactCodeCostRow.holds Try.pinned (OpenSpec.ofChange fnExactCodeCostSpec)

/-- ITS FALSE NEIGHBOUR: 'it returns false'. Refute it at one input. -/
def fnExactCodeCostWrong : ChangeSpec := { name := "fnExactCodeCost", fn := fun _ => fun
  | [d1, d2] => { results := [.lit (.bool false)], args := [d1, d2] }
  | _ => none }
def FnExactCodeCostWrongFalsely : Prop := fnExactCodeCostRow.holds Try.pinned (OpenSpec.ofChange fnExactCodeCostWrong)

/-- 'laws.FnExactWriteSymbols': WHATEVER THE INPUT: true; the input reads as it did. -/
def fnExactWriteSymbolsSpec : ChangeSpec := { name := "fnExactWriteSymbols", fn := fun _ => fun
  | [d1, d2] => { results := [.lit (.bool true)], args := [d1, d2] }
  | _ => none }
def fnExactWriteSymbolsRow : OpenClaim := { program := "ytcoegccnkdhpjaa", sum := "2ec3652c7f3ae29ce3c7c55ebb9b8ab12dc9bf4dd64ba1811ca2d44f3330b96c", func := "loop.example/g00016/laws.FnExactWriteSymbols", spec := "fnExactWriteSymbols", apart := false }
def FnExactWriteSymbolsSaid : Prop := fnExactWriteSymbolsRow.holds Try.pinned (OpenSpec.ofChange fnExactWriteSymbolsSpec)

/-- ITS FALSE NEIGHBOUR: 'it returns false'. Refute it at one input. -/
def fnExactWriteSymbolsWrong : ChangeSpec := { name := "fnExactWriteSymbols", fn := fun _ => fun
  | [d1, d2] => { results := [.lit (.bool false)], args := [d1, d2] }
  | _ => none }
def FnExactWriteSymbolsWrongFalsely : Prop := fnExactWriteSymbolsRow.holds Try.pinned (OpenSpec.ofChange fnExactWriteSymbolsWrong)

/-- 'laws.FnExactReadSymbols': WHATEVER THE INPUT: true; the input reads as it did. -/
def fnExactReadSymbolsSpec : ChangeSpec := { name := "fnExactReadSymbols", fn := fun _ => fun
  | [d1, d2, d3, d4] => { results := [.lit (.bool true)], args := [d1, d2, d3, d4] }
  | _ => none }
def fnExactReadSymbolsRow : OpenClaim := { program := "ytcoegccnkdhpjaa", sum := "2ec3652c7f3ae29ce3c7c55ebb9b8ab12dc9bf4dd64ba1811ca2d44f3330b96c", func := "loop.example/g00016/laws.FnExactReadSymbols", spec := "fnExactReadSymbols", apart := false }
def FnExactReadSymbolsSaid : Prop := fnExactReadSymbolsRow.holds Try.pinned (OpenSpec.ofChange fnExactReadSymbolsSpec)

/-- ITS FALSE NEIGHBOUR: 'it returns false'. Refute it at one input. -/
def fnExactReadSymbolsWrong : ChangeSpec := { name := "fnExactReadSymbols", fn := fun _ => fun
  | [d1, d2, d3, d4] => { results := [.lit (.bool false)], args := [d1, d2, d3, d4] }
  | _ => none }
def FnExactReadSymbolsWrongFalsely : Prop := fnExactReadSymbolsRow.holds Try.pinned (OpenSpec.ofChange fnExactReadSymbolsWrong)

/- THE SECOND FORM. 'bulk': how many values and letters a reading holds, each counted each time it is reached (what is shared counts as often as it is met; a slice's spare places count too). A statement '..UptoSaid' is the law's where the arguments, and the package variables that the reading takes, are together of bulk at most 1048576: NARROWER than '..Said'. Prove '..Said' where nothing that the law and all that it calls make is longer than what came in: it says more and counts as full. Else prove '..UptoSaid'. A law counts once. -/
mutual
def uptoBulk {H : Type} : DataW H → Nat
  | .lit (.string bytes) => bytes.length + 1
  | .lit _ => 1
  | .nil => 1
  | .ptr d => uptoBulk d + 1
  | .slice elems spare => uptoBulkAll elems + uptoBulkAll spare + 1
  | .agg parts => uptoBulkAll parts + 1
  | .iface _ d => uptoBulk d + 1
  | .map entries => uptoBulkEntries entries + 1
  | .held _ => 1
def uptoBulkAll {H : Type} : List (DataW H) → Nat
  | [] => 0
  | d :: r => uptoBulk d + uptoBulkAll r
def uptoBulkEntries {H : Type} : List (Lit × DataW H) → Nat
  | [] => 0
  | x :: r => uptoBulkEntry x + uptoBulkEntries r
def uptoBulkEntry {H : Type} : Lit × DataW H → Nat
  | (.string bytes, d) => bytes.length + uptoBulk d + 1
  | (_, d) => uptoBulk d + 1
 end
def uptoSmall : (H : Type) → List (DataW H) → Bool := fun _ ds => decide (uptoBulkAll ds ≤ 1048576)
def OpenSpec.upto (s : _root_.Go.ChangeSpec) : _root_.Go.OpenSpec := { _root_.Go.OpenSpec.ofChange s with cond := some uptoSmall }

/-- 'laws.FnBits', WHERE WHAT IT READS IS OF BULK AT MOST 1048576: true; the input reads as it did. -/
def fnBitsUptoRow : OpenClaim := { program := "ytcoegccnkdhpjaa", sum := "2ec3652c7f3ae29ce3c7c55ebb9b8ab12dc9bf4dd64ba1811ca2d44f3330b96c", func := "loop.example/g00016/laws.FnBits", spec := "fnBits", apart := false, narrowed := true }
def FnBitsUptoSaid : Prop := fnBitsUptoRow.holds Try.pinned (OpenSpec.upto fnBitsSpec)

/-- 'laws.FnLeast', WHERE WHAT IT READS IS OF BULK AT MOST 1048576: true; the input reads as it did. -/
def fnLeastUptoRow : OpenClaim := { program := "ytcoegccnkdhpjaa", sum := "2ec3652c7f3ae29ce3c7c55ebb9b8ab12dc9bf4dd64ba1811ca2d44f3330b96c", func := "loop.example/g00016/laws.FnLeast", spec := "fnLeast", unfollowed := true, recurses := true, apart := false, narrowed := true }
def FnLeastUptoSaid : Prop := fnLeastUptoRow.holds Try.pinned (OpenSpec.upto fnLeastSpec)

/-- 'laws.FnWords', WHERE WHAT IT READS IS OF BULK AT MOST 1048576: true; the input reads as it did. -/
def fnWordsUptoRow : OpenClaim := { program := "ytcoegccnkdhpjaa", sum := "2ec3652c7f3ae29ce3c7c55ebb9b8ab12dc9bf4dd64ba1811ca2d44f3330b96c", func := "loop.example/g00016/laws.FnWords", spec := "fnWords", apart := false, narrowed := true }
def FnWordsUptoSaid : Prop := fnWordsUptoRow.holds Try.pinned (OpenSpec.upto fnWordsSpec)

/-- 'laws.FnExactCodeLengths', WHERE WHAT IT READS IS OF BULK AT MOST 1048576: true; the input reads as it did. -/
def fnExactCodeLengthsUptoRow : OpenClaim := { program := "ytcoegccnkdhpjaa", sum := "2ec3652c7f3ae29ce3c7c55ebb9b8ab12dc9bf4dd64ba1811ca2d44f3330b96c", func := "loop.example/g00016/laws.FnExactCodeLengths", spec := "fnExactCodeLengths", unfollowed := true, recurses := true, apart := false, narrowed := true }
def FnExactCodeLengthsUptoSaid : Prop := fnExactCodeLengthsUptoRow.holds Try.pinned (OpenSpec.upto fnExactCodeLengthsSpec)

/-- 'laws.FnExactCodeKind', WHERE WHAT IT READS IS OF BULK AT MOST 1048576: true; the input reads as it did. -/
def fnExactCodeKindUptoRow : OpenClaim := { program := "ytcoegccnkdhpjaa", sum := "2ec3652c7f3ae29ce3c7c55ebb9b8ab12dc9bf4dd64ba1811ca2d44f3330b96c", func := "loop.example/g00016/laws.FnExactCodeKind", spec := "fnExactCodeKind", apart := false, narrowed := true }
def FnExactCodeKindUptoSaid : Prop := fnExactCodeKindUptoRow.holds Try.pinned (OpenSpec.upto fnExactCodeKindSpec)

/-- 'laws.FnExactCodeWords', WHERE WHAT IT READS IS OF BULK AT MOST 1048576: true; the input reads as it did. -/
def fnExactCodeWordsUptoRow : OpenClaim := { program := "ytcoegccnkdhpjaa", sum := "2ec3652c7f3ae29ce3c7c55ebb9b8ab12dc9bf4dd64ba1811ca2d44f3330b96c", func := "loop.example/g00016/laws.FnExactCodeWords", spec := "fnExactCodeWords", apart := false, narrowed := true }
def FnExactCodeWordsUptoSaid : Prop := fnExactCodeWordsUptoRow.holds Try.pinned (OpenSpec.upto fnExactCodeWordsSpec)

/-- 'laws.FnExactCodeCost', WHERE WHAT IT READS IS OF BULK AT MOST 1048576: true; the input reads as it did. -/
def fnExactCodeCostUptoRow : OpenClaim := { program := "ytcoegccnkdhpjaa", sum := "2ec3652c7f3ae29ce3c7c55ebb9b8ab12dc9bf4dd64ba1811ca2d44f3330b96c", func := "loop.example/g00016/laws.FnExactCodeCost", spec := "fnExactCodeCost", apart := false, narrowed := true }
def FnExactCodeCostUptoSaid : Prop := fnExactCodeCostUptoRow.holds Try.pinned (OpenSpec.upto fnExactCodeCostSpec)

/-- 'laws.FnExactWriteSymbols', WHERE WHAT IT READS IS OF BULK AT MOST 1048576: true; the input reads as it did. -/
def fnExactWriteSymbolsUptoRow : OpenClaim := { program := "ytcoegccnkdhpjaa", sum := "2ec3652c7f3ae29ce3c7c55ebb9b8ab12dc9bf4dd64ba1811ca2d44f3330b96c", func := "loop.example/g00016/laws.FnExactWriteSymbols", spec := "fnExactWriteSymbols", apart := false, narrowed := true }
def FnExactWriteSymbolsUptoSaid : Prop := fnExactWriteSymbolsUptoRow.holds Try.pinned (OpenSpec.upto fnExactWriteSymbolsSpec)

/-- 'laws.FnExactReadSymbols', WHERE WHAT IT READS IS OF BULK AT MOST 1048576: true; the input reads as it did. -/
def fnExactReadSymbolsUptoRow : OpenClaim := { program := "ytcoegccnkdhpjaa", sum := "2ec3652c7f3ae29ce3c7c55ebb9b8ab12dc9bf4dd64ba1811ca2d44f3330b96c", func := "loop.example/g00016/laws.FnExactReadSymbols", spec := "fnExactReadSymbols", apart := false, narrowed := true }
def FnExactReadSymbolsUptoSaid : Prop := fnExactReadSymbolsUptoRow.holds Try.pinned (OpenSpec.upto fnExactReadSymbolsSpec)

end Rows
end Go.Proofs.Ytcoegccnkdhpjaa
