/-
  No cell of these rows narrows 'for every input' (looked for: loops, veiled, ifaces, maps, wideKeys, modest, calm, conditions, laid).
  DERIVED. THE GIVEN ROWS OF THIS SEAT. 10 by the template 'for every input the law returns true; each argument reads behind the call as it read before'; 0 by the template 'total and deterministic' (their statements: YtnfifpngiocbnaaTotals.lean).
  GIVEN WITH THE SEED: the statements are not yours to turn. If you find one false, say at which input.
  Laid BY PROGRAM, IN A SANDBOX (cutbox-rows.mjs): the forced cells as the released guide's own fill.sh prints them over the translation 4ad053b825ee63d8… (all of the seat's roots in one cut). By AI agents, Wed Nov 11 2026. No macro, syntax, notation, axiom, sorry.
-/
import Derived.Test.YtnfifpngiocbnaaChecked
import GoSem.Claim
import GoSem.ClaimJoined
import GoSem.ClaimMapViews
import Derived.JoinedTies
import Derived.KernelRfl
namespace Go.Proofs.Ytnfifpngiocbnaa
/- THE CELL 'sum', in the pinned program and in every row, IS THE sha256 OF THE DUMP (.gsa) THAT YtnfifpngiocbnaaProg.lean LOADS. Nothing in Lean hashes anything: it is a label: what it is worth is what the hold of that sum in a sandbox is worth. -/
noncomputable def Try.pinned : Pinned := { name := "ytnfifpngiocbnaa", sum := "4ad053b825ee63d83c0d0cd01575c1b9da3c814132ddb6e3450ef20d5685b9c1", checked := Try.checked }
namespace Rows
def none {H : Type} : Left H := { results := [], args := [] }

/-- 'laws.FnBook': WHATEVER THE INPUT: true; the input reads as it did. -/
def fnBookSpec : ChangeSpec := { name := "fnBook", fn := fun _ => fun
  | [d] => { results := [.lit (.bool true)], args := [d] }
  | _ => none }
def fnBookRow : OpenClaim := { program := "ytnfifpngiocbnaa", sum := "4ad053b825ee63d83c0d0cd01575c1b9da3c814132ddb6e3450ef20d5685b9c1", func := "loop.example/g00016/laws.FnBook", spec := "fnBook", plainKeys := false, apart := false }
def FnBookSaid : Prop := fnBookRow.holds Try.pinned (OpenSpec.ofChange fnBookSpec)

/-- ITS FALSE NEIGHBOUR: 'it returns false'. Refute it at one input. -/
def fnBookWrong : ChangeSpec := { name := "fnBook", fn := fun _ => fun
  | [d] => { results := [.lit (.bool false)], args := [d] }
  | _ => none }
def FnBookWrongFalsely : Prop := fnBookRow.holds Try.pinned (OpenSpec.ofChange fnBookWrong)

/-- 'laws.FnMoving': WHATEVER THE INPUT: true; the input reads as it did. -/
def fnMovingSpec : ChangeSpec := { name := "fnMoving", fn := fun _ => fun
  | [d] => { results := [.lit (.bool true)], args := [d] }
  | _ => none }
def fnMovingRow : OpenClaim := { program := "ytnfifpngiocbnaa", sum := "4ad053b825ee63d83c0d0cd01575c1b9da3c814132ddb6e3450ef20d5685b9c1", func := "loop.example/g00016/laws.FnMoving", spec := "fnMoving", unfollowed := true, recurses := true, plainKeys := false, apart := false }
def FnMovingSaid : Prop := fnMovingRow.holds Try.pinned (OpenSpec.ofChange fnMovingSpec)

/-- ITS FALSE NEIGHBOUR: 'it returns false'. Refute it at one input. -/
def fnMovingWrong : ChangeSpec := { name := "fnMoving", fn := fun _ => fun
  | [d] => { results := [.lit (.bool false)], args := [d] }
  | _ => none }
def FnMovingWrongFalsely : Prop := fnMovingRow.holds Try.pinned (OpenSpec.ofChange fnMovingWrong)

/-- 'laws.FnBetween': WHATEVER THE INPUT: true; the input reads as it did. -/
def fnBetweenSpec : ChangeSpec := { name := "fnBetween", fn := fun _ => fun
  | [d] => { results := [.lit (.bool true)], args := [d] }
  | _ => none }
def fnBetweenRow : OpenClaim := { program := "ytnfifpngiocbnaa", sum := "4ad053b825ee63d83c0d0cd01575c1b9da3c814132ddb6e3450ef20d5685b9c1", func := "loop.example/g00016/laws.FnBetween", spec := "fnBetween", plainKeys := false, apart := false }
def FnBetweenSaid : Prop := fnBetweenRow.holds Try.pinned (OpenSpec.ofChange fnBetweenSpec)

/-- ITS FALSE NEIGHBOUR: 'it returns false'. Refute it at one input. -/
def fnBetweenWrong : ChangeSpec := { name := "fnBetween", fn := fun _ => fun
  | [d] => { results := [.lit (.bool false)], args := [d] }
  | _ => none }
def FnBetweenWrongFalsely : Prop := fnBetweenRow.holds Try.pinned (OpenSpec.ofChange fnBetweenWrong)

/-- 'laws.FnExactWordsPack': WHATEVER THE INPUT: true; the input reads as it did. -/
def fnExactWordsPackSpec : ChangeSpec := { name := "fnExactWordsPack", fn := fun _ => fun
  | [d1, d2] => { results := [.lit (.bool true)], args := [d1, d2] }
  | _ => none }
def fnExactWordsPackRow : OpenClaim := { program := "ytnfifpngiocbnaa", sum := "4ad053b825ee63d83c0d0cd01575c1b9da3c814132ddb6e3450ef20d5685b9c1", func := "loop.example/g00016/laws.FnExactWordsPack", spec := "fnExactWordsPack", plainKeys := false, apart := false }
def FnExactWordsPackSaid : Prop := fnExactWordsPackRow.holds Try.pinned (OpenSpec.ofChange fnExactWordsPackSpec)

/-- ITS FALSE NEIGHBOUR: 'it returns false'. Refute it at one input. -/
def fnExactWordsPackWrong : ChangeSpec := { name := "fnExactWordsPack", fn := fun _ => fun
  | [d1, d2] => { results := [.lit (.bool false)], args := [d1, d2] }
  | _ => none }
def FnExactWordsPackWrongFalsely : Prop := fnExactWordsPackRow.holds Try.pinned (OpenSpec.ofChange fnExactWordsPackWrong)

/-- 'laws.FnExactWordsUnpack': WHATEVER THE INPUT: true; the input reads as it did. -/
def fnExactWordsUnpackSpec : ChangeSpec := { name := "fnExactWordsUnpack", fn := fun _ => fun
  | [d1, d2, d3] => { results := [.lit (.bool true)], args := [d1, d2, d3] }
  | _ => none }
def fnExactWordsUnpackRow : OpenClaim := { program := "ytnfifpngiocbnaa", sum := "4ad053b825ee63d83c0d0cd01575c1b9da3c814132ddb6e3450ef20d5685b9c1", func := "loop.example/g00016/laws.FnExactWordsUnpack", spec := "fnExactWordsUnpack", plainKeys := false, apart := false }
def FnExactWordsUnpackSaid : Prop := fnExactWordsUnpackRow.holds Try.pinned (OpenSpec.ofChange fnExactWordsUnpackSpec)

/-- ITS FALSE NEIGHBOUR: 'it returns false'. Refute it at one input. -/
def fnExactWordsUnpackWrong : ChangeSpec := { name := "fnExactWordsUnpack", fn := fun _ => fun
  | [d1, d2, d3] => { results := [.lit (.bool false)], args := [d1, d2, d3] }
  | _ => none }
def FnExactWordsUnpackWrongFalsely : Prop := fnExactWordsUnpackRow.holds Try.pinned (OpenSpec.ofChange fnExactWordsUnpackWrong)

/-- 'laws.FnExactGoodMoving': WHATEVER THE INPUT: true; the input reads as it did. -/
def fnExactGoodMovingSpec : ChangeSpec := { name := "fnExactGoodMoving", fn := fun _ => fun
  | [d] => { results := [.lit (.bool true)], args := [d] }
  | _ => none }
def fnExactGoodMovingRow : OpenClaim := { program := "ytnfifpngiocbnaa", sum := "4ad053b825ee63d83c0d0cd01575c1b9da3c814132ddb6e3450ef20d5685b9c1", func := "loop.example/g00016/laws.FnExactGoodMoving", spec := "fnExactGoodMoving", plainKeys := false, apart := false }
def FnExactGoodMovingSaid : Prop := fnExactGoodMovingRow.holds Try.pinned (OpenSpec.ofChange fnExactGoodMovingSpec)

/-- ITS FALSE NEIGHBOUR: 'it returns false'. Refute it at one input. -/
def fnExactGoodMovingWrong : ChangeSpec := { name := "fnExactGoodMoving", fn := fun _ => fun
  | [d] => { results := [.lit (.bool false)], args := [d] }
  | _ => none }
def FnExactGoodMovingWrongFalsely : Prop := fnExactGoodMovingRow.holds Try.pinned (OpenSpec.ofChange fnExactGoodMovingWrong)

/-- 'laws.FnExactEncodeMoving': WHATEVER THE INPUT: true; the input reads as it did. -/
def fnExactEncodeMovingSpec : ChangeSpec := { name := "fnExactEncodeMoving", fn := fun _ => fun
  | [d] => { results := [.lit (.bool true)], args := [d] }
  | _ => none }
def fnExactEncodeMovingRow : OpenClaim := { program := "ytnfifpngiocbnaa", sum := "4ad053b825ee63d83c0d0cd01575c1b9da3c814132ddb6e3450ef20d5685b9c1", func := "loop.example/g00016/laws.FnExactEncodeMoving", spec := "fnExactEncodeMoving", unfollowed := true, recurses := true, plainKeys := false, apart := false }
def FnExactEncodeMovingSaid : Prop := fnExactEncodeMovingRow.holds Try.pinned (OpenSpec.ofChange fnExactEncodeMovingSpec)

/-- ITS FALSE NEIGHBOUR: 'it returns false'. Refute it at one input. -/
def fnExactEncodeMovingWrong : ChangeSpec := { name := "fnExactEncodeMoving", fn := fun _ => fun
  | [d] => { results := [.lit (.bool false)], args := [d] }
  | _ => none }
def FnExactEncodeMovingWrongFalsely : Prop := fnExactEncodeMovingRow.holds Try.pinned (OpenSpec.ofChange fnExactEncodeMovingWrong)

/-- 'laws.FnExactDecodeMoving': WHATEVER THE INPUT: true; the input reads as it did. -/
def fnExactDecodeMovingSpec : ChangeSpec := { name := "fnExactDecodeMoving", fn := fun _ => fun
  | [d] => { results := [.lit (.bool true)], args := [d] }
  | _ => none }
def fnExactDecodeMovingRow : OpenClaim := { program := "ytnfifpngiocbnaa", sum := "4ad053b825ee63d83c0d0cd01575c1b9da3c814132ddb6e3450ef20d5685b9c1", func := "loop.example/g00016/laws.FnExactDecodeMoving", spec := "fnExactDecodeMoving", plainKeys := false, apart := false }
def FnExactDecodeMovingSaid : Prop := fnExactDecodeMovingRow.holds Try.pinned (OpenSpec.ofChange fnExactDecodeMovingSpec)

/-- ITS FALSE NEIGHBOUR: 'it returns false'. Refute it at one input. -/
def fnExactDecodeMovingWrong : ChangeSpec := { name := "fnExactDecodeMoving", fn := fun _ => fun
  | [d] => { results := [.lit (.bool false)], args := [d] }
  | _ => none }
def FnExactDecodeMovingWrongFalsely : Prop := fnExactDecodeMovingRow.holds Try.pinned (OpenSpec.ofChange fnExactDecodeMovingWrong)

/-- 'laws.FnExactScreens': WHATEVER THE INPUT: true; the input reads as it did. -/
def fnExactScreensSpec : ChangeSpec := { name := "fnExactScreens", fn := fun _ => fun
  | [d] => { results := [.lit (.bool true)], args := [d] }
  | _ => none }
def fnExactScreensRow : OpenClaim := { program := "ytnfifpngiocbnaa", sum := "4ad053b825ee63d83c0d0cd01575c1b9da3c814132ddb6e3450ef20d5685b9c1", func := "loop.example/g00016/laws.FnExactScreens", spec := "fnExactScreens", plainKeys := false, apart := false }
def FnExactScreensSaid : Prop := fnExactScreensRow.holds Try.pinned (OpenSpec.ofChange fnExactScreensSpec)

/-- ITS FALSE NEIGHBOUR: 'it returns false'. Refute it at one input. -/
def fnExactScreensWrong : ChangeSpec := { name := "fnExactScreens", fn := fun _ => fun
  | [d] => { results := [.lit (.bool false)], args := [d] }
  | _ => none }
def FnExactScreensWrongFalsely : Prop := fnExactScreensRow.holds Try.pinned (OpenSpec.ofChange fnExactScreensWrong)

/-- 'laws.FnExactBetween': WHATEVER THE INPUT: true; the input reads as it did. -/
def fnExactBetweenSpec : ChangeSpec := { name := "fnExactBetween", fn := fun _ => fun
  | [d1, d2, d3, d4] => { results := [.lit (.bool true)], args := [d1, d2, d3, d4] }
  | _ => none }
def fnExactBetweenRow : OpenClaim := { program := "ytnfifpngiocbnaa", sum := "4ad053b825ee63d83c0d0cd01575c1b9da3c814132ddb6e3450ef20d5685b9c1", func := "loop.example/g00016/laws.FnExactBetween", spec := "fnExactBetween", plainKeys := false, apart := false }
def FnExactBetweenSaid : Prop := fnExactBetweenRow.holds Try.pinned (OpenSpec.ofChange fnExactBetweenSpec)

/-- ITS FALSE NEIGHBOUR: 'it returns false'. Refute it at one input. -/
def fnExactBetweenWrong : ChangeSpec := { name := "fnExactBetween", fn := fun _ => fun
  | [d1, d2, d3, d4] => { results := [.lit (.bool false)], args := [d1, d2, d3, d4] }
  | _ => none }
def FnExactBetweenWrongFalsely : Prop := fnExactBetweenRow.holds Try.pinned (OpenSpec.ofChange fnExactBetweenWrong)

/- THE SECOND FORM. 'bulk': how many values and letters a reading holds, each counted each time it is reached (what is shared counts as often as it is met; a slice's spare places count too). A statement '..UptoSaid' is the law's where the arguments, and the package variables that the reading takes, are together of bulk at most 1048576: NARROWER than '..Said'. Prove '..Said' where nothing that the law and all that it calls make is longer than what came in: it says more and counts as full. Else prove '..UptoSaid'. A law counts once. -/
mutual
def uptoBulk {H : Type} : DataW H → Nat
  | .lit (.string bytes) => bytes.length + 1
  | .lit _ => 1
  | .nil => 1
  | .ptr d => uptoBulk d + 1
  | .slice elems spare => uptoBulkAll elems + uptoBulkAll spare + 1
  | .agg parts => uptoBulkAll parts + 1
  | .iface _ d => uptoBulk d + 1
  | .map entries => uptoBulkEntries entries + 1
  | .held _ => 1
def uptoBulkAll {H : Type} : List (DataW H) → Nat
  | [] => 0
  | d :: r => uptoBulk d + uptoBulkAll r
def uptoBulkEntries {H : Type} : List (Lit × DataW H) → Nat
  | [] => 0
  | x :: r => uptoBulkEntry x + uptoBulkEntries r
def uptoBulkEntry {H : Type} : Lit × DataW H → Nat
  | (.string bytes, d) => bytes.length + uptoBulk d + 1
  | (_, d) => uptoBulk d + 1
 end
def uptoSmall : (H : Type) → List (DataW H) → Bool := fun _ ds => decide (uptoBulkAll ds ≤ 1048576)
def OpenSpec.upto (s : _root_.Go.ChangeSpec) : _root_.Go.OpenSpec := { _root_.Go.OpenSpec.ofChange s with cond := some uptoSmall }

/-- 'laws.FnBook', WHERE WHAT IT READS IS OF BULK AT MOST 1048576: true; the input reads as it did. -/
def fnBookUptoRow : OpenClaim := { program := "ytnfifpngiocbnaa", sum := "4ad053b825ee63d83c0d0cd01575c1b9da3c814132ddb6e3450ef20d5685b9c1", func := "loop.example/g00016/laws.FnBook", spec := "fnBook", plainKeys := false, apart := false, narrowed := true }
def FnBookUptoSaid : Prop := fnBookUptoRow.holds Try.pinned (OpenSpec.upto fnBookSpec)

/-- 'laws.FnMoving', WHERE WHAT IT READS IS OF BULK AT MOST 1048576: true; the input reads as it did. -/
def fnMovingUptoRow : OpenClaim := { program := "ytnfifpngiocbnaa", sum := "4ad053b825ee63d83c0d0cd01575c1b9da3c814132ddb6e3450ef20d5685b9c1", func := "loop.example/g00016/laws.FnMoving", spec := "fnMoving", unfollowed := true, recurses := true, plainKeys := false, apart := false, narrowed := true }
def FnMovingUptoSaid : Prop := fnMovingUptoRow.holds Try.pinned (OpenSpec.upto fnMovingSpec)

/-- 'laws.FnBetween', WHERE WHAT IT READS IS OF BULK AT MOST 1048576: true; the input reads as it did. -/
def fnBetweenUptoRow : OpenClaim := { program := "ytnfifpngiocbnaa", sum := "4ad053b825ee63d83c0d0cd01575c1b9da3c814132ddb6e3450ef20d5685b9c1", func := "loop.example/g00016/laws.FnBetween", spec := "fnBetween", plainKeys := false, apart := false, narrowed := true }
def FnBetweenUptoSaid : Prop := fnBetweenUptoRow.holds Try.pinned (OpenSpec.upto fnBetweenSpec)

/-- 'laws.FnExactWordsPack', WHERE WHAT IT READS IS OF BULK AT MOST 1048576: true; the input reads as it did. -/
def fnExactWordsPackUptoRow : OpenClaim := { program := "ytnfifpngiocbnaa", sum := "4ad053b825ee63d83c0d0cd01575c1b9da3c814132ddb6e3450ef20d5685b9c1", func := "loop.example/g00016/laws.FnExactWordsPack", spec := "fnExactWordsPack", plainKeys := false, apart := false, narrowed := true }
def FnExactWordsPackUptoSaid : Prop := fnExactWordsPackUptoRow.holds Try.pinned (OpenSpec.upto fnExactWordsPackSpec)

/-- 'laws.FnExactWordsUnpack', WHERE WHAT IT READS IS OF BULK AT MOST 1048576: true; the input reads as it did. -/
def fnExactWordsUnpackUptoRow : OpenClaim := { program := "ytnfifpngiocbnaa", sum := "4ad053b825ee63d83c0d0cd01575c1b9da3c814132ddb6e3450ef20d5685b9c1", func := "loop.example/g00016/laws.FnExactWordsUnpack", spec := "fnExactWordsUnpack", plainKeys := false, apart := false, narrowed := true }
def FnExactWordsUnpackUptoSaid : Prop := fnExactWordsUnpackUptoRow.holds Try.pinned (OpenSpec.upto fnExactWordsUnpackSpec)

/-- 'laws.FnExactGoodMoving', WHERE WHAT IT READS IS OF BULK AT MOST 1048576: true; the input reads as it did. -/
def fnExactGoodMovingUptoRow : OpenClaim := { program := "ytnfifpngiocbnaa", sum := "4ad053b825ee63d83c0d0cd01575c1b9da3c814132ddb6e3450ef20d5685b9c1", func := "loop.example/g00016/laws.FnExactGoodMoving", spec := "fnExactGoodMoving", plainKeys := false, apart := false, narrowed := true }
def FnExactGoodMovingUptoSaid : Prop := fnExactGoodMovingUptoRow.holds Try.pinned (OpenSpec.upto fnExactGoodMovingSpec)

/-- 'laws.FnExactEncodeMoving', WHERE WHAT IT READS IS OF BULK AT MOST 1048576: true; the input reads as it did. -/
def fnExactEncodeMovingUptoRow : OpenClaim := { program := "ytnfifpngiocbnaa", sum := "4ad053b825ee63d83c0d0cd01575c1b9da3c814132ddb6e3450ef20d5685b9c1", func := "loop.example/g00016/laws.FnExactEncodeMoving", spec := "fnExactEncodeMoving", unfollowed := true, recurses := true, plainKeys := false, apart := false, narrowed := true }
def FnExactEncodeMovingUptoSaid : Prop := fnExactEncodeMovingUptoRow.holds Try.pinned (OpenSpec.upto fnExactEncodeMovingSpec)

/-- 'laws.FnExactDecodeMoving', WHERE WHAT IT READS IS OF BULK AT MOST 1048576: true; the input reads as it did. -/
def fnExactDecodeMovingUptoRow : OpenClaim := { program := "ytnfifpngiocbnaa", sum := "4ad053b825ee63d83c0d0cd01575c1b9da3c814132ddb6e3450ef20d5685b9c1", func := "loop.example/g00016/laws.FnExactDecodeMoving", spec := "fnExactDecodeMoving", plainKeys := false, apart := false, narrowed := true }
def FnExactDecodeMovingUptoSaid : Prop := fnExactDecodeMovingUptoRow.holds Try.pinned (OpenSpec.upto fnExactDecodeMovingSpec)

/-- 'laws.FnExactScreens', WHERE WHAT IT READS IS OF BULK AT MOST 1048576: true; the input reads as it did. -/
def fnExactScreensUptoRow : OpenClaim := { program := "ytnfifpngiocbnaa", sum := "4ad053b825ee63d83c0d0cd01575c1b9da3c814132ddb6e3450ef20d5685b9c1", func := "loop.example/g00016/laws.FnExactScreens", spec := "fnExactScreens", plainKeys := false, apart := false, narrowed := true }
def FnExactScreensUptoSaid : Prop := fnExactScreensUptoRow.holds Try.pinned (OpenSpec.upto fnExactScreensSpec)

/-- 'laws.FnExactBetween', WHERE WHAT IT READS IS OF BULK AT MOST 1048576: true; the input reads as it did. -/
def fnExactBetweenUptoRow : OpenClaim := { program := "ytnfifpngiocbnaa", sum := "4ad053b825ee63d83c0d0cd01575c1b9da3c814132ddb6e3450ef20d5685b9c1", func := "loop.example/g00016/laws.FnExactBetween", spec := "fnExactBetween", plainKeys := false, apart := false, narrowed := true }
def FnExactBetweenUptoSaid : Prop := fnExactBetweenUptoRow.holds Try.pinned (OpenSpec.upto fnExactBetweenSpec)

end Rows
end Go.Proofs.Ytnfifpngiocbnaa
