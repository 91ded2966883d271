/-
  No cell of these rows narrows 'for every input' (looked for: loops, veiled, ifaces, maps, wideKeys, modest, calm, conditions, laid).
  DERIVED. THE GIVEN ROWS OF THIS SEAT. 6 by the template 'for every input the law returns true; each argument reads behind the call as it read before'; 0 by the template 'total and deterministic' (their statements: YtpofmcepjmbmcaaTotals.lean).
  GIVEN WITH THE SEED: the statements are not yours to turn. If you find one false, say at which input.
  Laid BY PROGRAM, IN A SANDBOX (cutbox-rows.mjs): the forced cells as the released guide's own fill.sh prints them over the translation 916224ff89d4b9a3… (all of the seat's roots in one cut). By AI agents, Wed Nov 11 2026. No macro, syntax, notation, axiom, sorry.
-/
import Derived.Test.YtpofmcepjmbmcaaChecked
import GoSem.Claim
import GoSem.ClaimJoined
import GoSem.ClaimMapViews
import Derived.JoinedTies
import Derived.KernelRfl
namespace Go.Proofs.Ytpofmcepjmbmcaa
/- THE CELL 'sum', in the pinned program and in every row, IS THE sha256 OF THE DUMP (.gsa) THAT YtpofmcepjmbmcaaProg.lean LOADS. Nothing in Lean hashes anything: it is a label: what it is worth is what the hold of that sum in a sandbox is worth. -/
noncomputable def Try.pinned : Pinned := { name := "ytpofmcepjmbmcaa", sum := "916224ff89d4b9a3e82f9b6f5401f00de9409887b684daec7ce96178f32f73e4", checked := Try.checked }
namespace Rows
def none {H : Type} : Left H := { results := [], args := [] }

/-- 'laws.FnOdds': WHATEVER THE INPUT: true; the input reads as it did. -/
def fnOddsSpec : ChangeSpec := { name := "fnOdds", fn := fun _ => fun
  | [d] => { results := [.lit (.bool true)], args := [d] }
  | _ => none }
def fnOddsRow : OpenClaim := { program := "ytpofmcepjmbmcaa", sum := "916224ff89d4b9a3e82f9b6f5401f00de9409887b684daec7ce96178f32f73e4", func := "loop.example/g00016/laws.FnOdds", spec := "fnOdds", apart := false }
def FnOddsSaid : Prop := fnOddsRow.holds Try.pinned (OpenSpec.ofChange fnOddsSpec)

/-- ITS FALSE NEIGHBOUR: 'it returns false'. Refute it at one input. -/
def fnOddsWrong : ChangeSpec := { name := "fnOdds", fn := fun _ => fun
  | [d] => { results := [.lit (.bool false)], args := [d] }
  | _ => none }
def FnOddsWrongFalsely : Prop := fnOddsRow.holds Try.pinned (OpenSpec.ofChange fnOddsWrong)

/-- 'laws.FnSmooth': WHATEVER THE INPUT: true; the input reads as it did. -/
def fnSmoothSpec : ChangeSpec := { name := "fnSmooth", fn := fun _ => fun
  | [d] => { results := [.lit (.bool true)], args := [d] }
  | _ => none }
def fnSmoothRow : OpenClaim := { program := "ytpofmcepjmbmcaa", sum := "916224ff89d4b9a3e82f9b6f5401f00de9409887b684daec7ce96178f32f73e4", func := "loop.example/g00016/laws.FnSmooth", spec := "fnSmooth", apart := false }
def FnSmoothSaid : Prop := fnSmoothRow.holds Try.pinned (OpenSpec.ofChange fnSmoothSpec)

/-- ITS FALSE NEIGHBOUR: 'it returns false'. Refute it at one input. -/
def fnSmoothWrong : ChangeSpec := { name := "fnSmooth", fn := fun _ => fun
  | [d] => { results := [.lit (.bool false)], args := [d] }
  | _ => none }
def FnSmoothWrongFalsely : Prop := fnSmoothRow.holds Try.pinned (OpenSpec.ofChange fnSmoothWrong)

/-- 'laws.FnExactGuess': WHATEVER THE INPUT: true; the input reads as it did. -/
def fnExactGuessSpec : ChangeSpec := { name := "fnExactGuess", fn := fun _ => fun
  | [d1, d2, d3, d4, d5] => { results := [.lit (.bool true)], args := [d1, d2, d3, d4, d5] }
  | _ => none }
def fnExactGuessRow : OpenClaim := { program := "ytpofmcepjmbmcaa", sum := "916224ff89d4b9a3e82f9b6f5401f00de9409887b684daec7ce96178f32f73e4", func := "loop.example/g00016/laws.FnExactGuess", spec := "fnExactGuess", unfollowed := true, recurses := true, apart := false }
def FnExactGuessSaid : Prop := fnExactGuessRow.holds Try.pinned (OpenSpec.ofChange fnExactGuessSpec)

/-- ITS FALSE NEIGHBOUR: 'it returns false'. Refute it at one input. -/
def fnExactGuessWrong : ChangeSpec := { name := "fnExactGuess", fn := fun _ => fun
  | [d1, d2, d3, d4, d5] => { results := [.lit (.bool false)], args := [d1, d2, d3, d4, d5] }
  | _ => none }
def FnExactGuessWrongFalsely : Prop := fnExactGuessRow.holds Try.pinned (OpenSpec.ofChange fnExactGuessWrong)

/-- 'laws.FnExactApart': WHATEVER THE INPUT: true; the input reads as it did. -/
def fnExactApartSpec : ChangeSpec := { name := "fnExactApart", fn := fun _ => fun
  | [d1, d2] => { results := [.lit (.bool true)], args := [d1, d2] }
  | _ => none }
def fnExactApartRow : OpenClaim := { program := "ytpofmcepjmbmcaa", sum := "916224ff89d4b9a3e82f9b6f5401f00de9409887b684daec7ce96178f32f73e4", func := "loop.example/g00016/laws.FnExactApart", spec := "fnExactApart", apart := false }
def FnExactApartSaid : Prop := fnExactApartRow.holds Try.pinned (OpenSpec.ofChange fnExactApartSpec)

/-- ITS FALSE NEIGHBOUR: 'it returns false'. Refute it at one input. -/
def fnExactApartWrong : ChangeSpec := { name := "fnExactApart", fn := fun _ => fun
  | [d1, d2] => { results := [.lit (.bool false)], args := [d1, d2] }
  | _ => none }
def FnExactApartWrongFalsely : Prop := fnExactApartRow.holds Try.pinned (OpenSpec.ofChange fnExactApartWrong)

/-- 'laws.FnExactSmallInverse': WHATEVER THE INPUT: true; the input reads as it did. -/
def fnExactSmallInverseSpec : ChangeSpec := { name := "fnExactSmallInverse", fn := fun _ => fun
  | [d] => { results := [.lit (.bool true)], args := [d] }
  | _ => none }
def fnExactSmallInverseRow : OpenClaim := { program := "ytpofmcepjmbmcaa", sum := "916224ff89d4b9a3e82f9b6f5401f00de9409887b684daec7ce96178f32f73e4", func := "loop.example/g00016/laws.FnExactSmallInverse", spec := "fnExactSmallInverse", unfollowed := true, recurses := true, apart := false }
def FnExactSmallInverseSaid : Prop := fnExactSmallInverseRow.holds Try.pinned (OpenSpec.ofChange fnExactSmallInverseSpec)

/-- ITS FALSE NEIGHBOUR: 'it returns false'. Refute it at one input. -/
def fnExactSmallInverseWrong : ChangeSpec := { name := "fnExactSmallInverse", fn := fun _ => fun
  | [d] => { results := [.lit (.bool false)], args := [d] }
  | _ => none }
def FnExactSmallInverseWrongFalsely : Prop := fnExactSmallInverseRow.holds Try.pinned (OpenSpec.ofChange fnExactSmallInverseWrong)

/-- 'laws.FnExactSmooth': WHATEVER THE INPUT: true; the input reads as it did. -/
def fnExactSmoothSpec : ChangeSpec := { name := "fnExactSmooth", fn := fun _ => fun
  | [d1, d2] => { results := [.lit (.bool true)], args := [d1, d2] }
  | _ => none }
def fnExactSmoothRow : OpenClaim := { program := "ytpofmcepjmbmcaa", sum := "916224ff89d4b9a3e82f9b6f5401f00de9409887b684daec7ce96178f32f73e4", func := "loop.example/g00016/laws.FnExactSmooth", spec := "fnExactSmooth", apart := false }
def FnExactSmoothSaid : Prop := fnExactSmoothRow.holds Try.pinned (OpenSpec.ofChange fnExactSmoothSpec)

/-- ITS FALSE NEIGHBOUR: 'it returns false'. Refute it at one input. -/
def fnExactSmoothWrong : ChangeSpec := { name := "fnExactSmooth", fn := fun _ => fun
  | [d1, d2] => { results := [.lit (.bool false)], args := [d1, d2] }
  | _ => none }
def FnExactSmoothWrongFalsely : Prop := fnExactSmoothRow.holds Try.pinned (OpenSpec.ofChange fnExactSmoothWrong)

/- THE SECOND FORM. 'bulk': how many values and letters a reading holds, each counted each time it is reached (what is shared counts as often as it is met; a slice's spare places count too). A statement '..UptoSaid' is the law's where the arguments, and the package variables that the reading takes, are together of bulk at most 1048576: NARROWER than '..Said'. Prove '..Said' where nothing that the law and all that it calls make is longer than what came in: it says more and counts as full. Else prove '..UptoSaid'. A law counts once. -/
mutual
def uptoBulk {H : Type} : DataW H → Nat
  | .lit (.string bytes) => bytes.length + 1
  | .lit _ => 1
  | .nil => 1
  | .ptr d => uptoBulk d + 1
  | .slice elems spare => uptoBulkAll elems + uptoBulkAll spare + 1
  | .agg parts => uptoBulkAll parts + 1
  | .iface _ d => uptoBulk d + 1
  | .map entries => uptoBulkEntries entries + 1
  | .held _ => 1
def uptoBulkAll {H : Type} : List (DataW H) → Nat
  | [] => 0
  | d :: r => uptoBulk d + uptoBulkAll r
def uptoBulkEntries {H : Type} : List (Lit × DataW H) → Nat
  | [] => 0
  | x :: r => uptoBulkEntry x + uptoBulkEntries r
def uptoBulkEntry {H : Type} : Lit × DataW H → Nat
  | (.string bytes, d) => bytes.length + uptoBulk d + 1
  | (_, d) => uptoBulk d + 1
 end
def uptoSmall : (H : Type) → List (DataW H) → Bool := fun _ ds => decide (uptoBulkAll ds ≤ 1048576)
def OpenSpec.upto (s : _root_.Go.ChangeSpec) : _root_.Go.OpenSpec := { _root_.Go.OpenSpec.ofChange s with cond := some uptoSmall }

/-- 'laws.FnOdds', WHERE WHAT IT READS IS OF BULK AT MOST 1048576: true; the input reads as it did. -/
def fnOddsUptoRow : OpenClaim := { program := "ytpofmcepjmbmcaa", sum := "916224ff89d4b9a3e82f9b6f5401f00de9409887b684daec7ce96178f32f73e4", func := "loop.example/g00016/laws.FnOdds", spec := "fnOdds", apart := false, narrowed := true }
def FnOddsUptoSaid : Prop := fnOddsUptoRow.holds Try.pinned (OpenSpec.upto fnOddsSpec)

/-- 'laws.FnSmooth', WHERE WHAT IT READS IS OF BULK AT MOST 1048576: true; the input reads as it did. -/
def fnSmoothUptoRow : OpenClaim := { program := "ytpofmcepjmbmcaa", sum := "916224ff89d4b9a3e82f9b6f5401f00de9409887b684daec7ce96178f32f73e4", func := "loop.example/g00016/laws.FnSmooth", spec := "fnSmooth", apart := false, narrowed := true }
def FnSmoothUptoSaid : Prop := fnSmoothUptoRow.holds Try.pinned (OpenSpec.upto fnSmoothSpec)

/-- 'laws.FnExactGuess', WHERE WHAT IT READS IS OF BULK AT MOST 1048576: true; the input reads as it did. -/
def fnExactGuessUptoRow : OpenClaim := { program := "ytpofmcepjmbmcaa", sum := "916224ff89d4b9a3e82f9b6f5401f00de9409887b684daec7ce96178f32f73e4", func := "loop.example/g00016/laws.FnExactGuess", spec := "fnExactGuess", unfollowed := true, recurses := true, apart := false, narrowed := true }
def FnExactGuessUptoSaid : Prop := fnExactGuessUptoRow.holds Try.pinned (OpenSpec.upto fnExactGuessSpec)

/-- 'laws.FnExactApart', WHERE WHAT IT READS IS OF BULK AT MOST 1048576: true; the input reads as it did. -/
def fnExactApartUptoRow : OpenClaim := { program := "ytpofmcepjmbmcaa", sum := "916224ff89d4b9a3e82f9b6f5401f00de9409887b684daec7ce96178f32f73e4", func := "loop.example/g00016/laws.FnExactApart", spec := "fnExactApart", apart := false, narrowed := true }
def FnExactApartUptoSaid : Prop := fnExactApartUptoRow.holds Try.pinned (OpenSpec.upto fnExactApartSpec)

/-- 'laws.FnExactSmallInverse', WHERE WHAT IT READS IS OF BULK AT MOST 1048576: true; the input reads as it did. -/
def fnExactSmallInverseUptoRow : OpenClaim := { program := "ytpofmcepjmbmcaa", sum := "916224ff89d4b9a3e82f9b6f5401f00de9409887b684daec7ce96178f32f73e4", func := "loop.example/g00016/laws.FnExactSmallInverse", spec := "fnExactSmallInverse", unfollowed := true, recurses := true, apart := false, narrowed := true }
def FnExactSmallInverseUptoSaid : Prop := fnExactSmallInverseUptoRow.holds Try.pinned (OpenSpec.upto fnExactSmallInverseSpec)

/-- 'laws.FnExactSmooth', WHERE WHAT IT READS IS OF BULK AT MOST 1048576: true; the input reads as it did. -/
def fnExactSmoothUptoRow : OpenClaim := { program := "ytpofmcepjmbmcaa", sum := "916224ff89d4b9a3e82f9b6f5401f00de9409887b684daec7ce96178f32f73e4", func := "loop.example/g00016/laws.FnExactSmooth", spec := "fnExactSmooth", apart := false, narrowed := true }
def FnExactSmoothUptoSaid : Prop := fnExactSmoothUptoRow.holds Try.pinned (OpenSpec.upto fnExactSmoothSpec)

end Rows
end Go.Proofs.Ytpofmcepjmbmcaa
