/-
  No cell of these rows narrows 'for every input' (looked for: loops, veiled, ifaces, maps, wideKeys, modest, calm, conditions, laid).
  DERIVED. THE GIVEN ROWS OF THIS SEAT. 10 by the template 'for every input the law returns true; each argument reads behind the call as it read before'; 0 by the template 'total and deterministic' (their statements: YtkeplngifceegaaTotals.lean).
  GIVEN WITH THE SEED: the statements are not yours to turn. If you find one false, say at which input.
  Laid BY PROGRAM, IN A SANDBOX (cutbox-rows.mjs): the forced cells as the released guide's own fill.sh prints them over the translation a6e390dccecf424a… (all of the seat's roots in one cut). By AI agents, Wed Nov 11 2026. No macro, syntax, notation, axiom, sorry.
-/
import Derived.Test.YtkeplngifceegaaChecked
import GoSem.Claim
import GoSem.ClaimJoined
import GoSem.ClaimMapViews
import Derived.JoinedTies
import Derived.KernelRfl
namespace Go.Proofs.Ytkeplngifceegaa
/- THE CELL 'sum', in the pinned program and in every row, IS THE sha256 OF THE DUMP (.gsa) THAT YtkeplngifceegaaProg.lean LOADS. Nothing in Lean hashes anything: it is a label: what it is worth is what the hold of that sum in a sandbox is worth. -/
noncomputable def Try.pinned : Pinned := { name := "ytkeplngifceegaa", sum := "a6e390dccecf424a180343968b2551e4724426b5957ebec802241def3115170c", checked := Try.checked }
namespace Rows
def none {H : Type} : Left H := { results := [], args := [] }

/-- 'laws.FnColours': WHATEVER THE INPUT: true; the input reads as it did. -/
def fnColoursSpec : ChangeSpec := { name := "fnColours", fn := fun _ => fun
  | [d] => { results := [.lit (.bool true)], args := [d] }
  | _ => none }
def fnColoursRow : OpenClaim := { program := "ytkeplngifceegaa", sum := "a6e390dccecf424a180343968b2551e4724426b5957ebec802241def3115170c", func := "loop.example/g00016/laws.FnColours", spec := "fnColours", apart := false }
def FnColoursSaid : Prop := fnColoursRow.holds Try.pinned (OpenSpec.ofChange fnColoursSpec)

/-- ITS FALSE NEIGHBOUR: 'it returns false'. Refute it at one input. -/
def fnColoursWrong : ChangeSpec := { name := "fnColours", fn := fun _ => fun
  | [d] => { results := [.lit (.bool false)], args := [d] }
  | _ => none }
def FnColoursWrongFalsely : Prop := fnColoursRow.holds Try.pinned (OpenSpec.ofChange fnColoursWrong)

/-- 'laws.FnSizes': WHATEVER THE INPUT: true; the input reads as it did. -/
def fnSizesSpec : ChangeSpec := { name := "fnSizes", fn := fun _ => fun
  | [d] => { results := [.lit (.bool true)], args := [d] }
  | _ => none }
def fnSizesRow : OpenClaim := { program := "ytkeplngifceegaa", sum := "a6e390dccecf424a180343968b2551e4724426b5957ebec802241def3115170c", func := "loop.example/g00016/laws.FnSizes", spec := "fnSizes", apart := false }
def FnSizesSaid : Prop := fnSizesRow.holds Try.pinned (OpenSpec.ofChange fnSizesSpec)

/-- ITS FALSE NEIGHBOUR: 'it returns false'. Refute it at one input. -/
def fnSizesWrong : ChangeSpec := { name := "fnSizes", fn := fun _ => fun
  | [d] => { results := [.lit (.bool false)], args := [d] }
  | _ => none }
def FnSizesWrongFalsely : Prop := fnSizesRow.holds Try.pinned (OpenSpec.ofChange fnSizesWrong)

/-- 'laws.FnExactBright': WHATEVER THE INPUT: true; the input reads as it did. -/
def fnExactBrightSpec : ChangeSpec := { name := "fnExactBright", fn := fun _ => fun
  | [d] => { results := [.lit (.bool true)], args := [d] }
  | _ => none }
def fnExactBrightRow : OpenClaim := { program := "ytkeplngifceegaa", sum := "a6e390dccecf424a180343968b2551e4724426b5957ebec802241def3115170c", func := "loop.example/g00016/laws.FnExactBright", spec := "fnExactBright", apart := false }
def FnExactBrightSaid : Prop := fnExactBrightRow.holds Try.pinned (OpenSpec.ofChange fnExactBrightSpec)

/-- ITS FALSE NEIGHBOUR: 'it returns false'. Refute it at one input. -/
def fnExactBrightWrong : ChangeSpec := { name := "fnExactBright", fn := fun _ => fun
  | [d] => { results := [.lit (.bool false)], args := [d] }
  | _ => none }
def FnExactBrightWrongFalsely : Prop := fnExactBrightRow.holds Try.pinned (OpenSpec.ofChange fnExactBrightWrong)

/-- 'laws.FnExactUnbright': WHATEVER THE INPUT: true; the input reads as it did. -/
def fnExactUnbrightSpec : ChangeSpec := { name := "fnExactUnbright", fn := fun _ => fun
  | [d] => { results := [.lit (.bool true)], args := [d] }
  | _ => none }
def fnExactUnbrightRow : OpenClaim := { program := "ytkeplngifceegaa", sum := "a6e390dccecf424a180343968b2551e4724426b5957ebec802241def3115170c", func := "loop.example/g00016/laws.FnExactUnbright", spec := "fnExactUnbright", apart := false }
def FnExactUnbrightSaid : Prop := fnExactUnbrightRow.holds Try.pinned (OpenSpec.ofChange fnExactUnbrightSpec)

/-- ITS FALSE NEIGHBOUR: 'it returns false'. Refute it at one input. -/
def fnExactUnbrightWrong : ChangeSpec := { name := "fnExactUnbright", fn := fun _ => fun
  | [d] => { results := [.lit (.bool false)], args := [d] }
  | _ => none }
def FnExactUnbrightWrongFalsely : Prop := fnExactUnbrightRow.holds Try.pinned (OpenSpec.ofChange fnExactUnbrightWrong)

/-- 'laws.FnExactLift': WHATEVER THE INPUT: true; the input reads as it did. -/
def fnExactLiftSpec : ChangeSpec := { name := "fnExactLift", fn := fun _ => fun
  | [d] => { results := [.lit (.bool true)], args := [d] }
  | _ => none }
def fnExactLiftRow : OpenClaim := { program := "ytkeplngifceegaa", sum := "a6e390dccecf424a180343968b2551e4724426b5957ebec802241def3115170c", func := "loop.example/g00016/laws.FnExactLift", spec := "fnExactLift", apart := false }
def FnExactLiftSaid : Prop := fnExactLiftRow.holds Try.pinned (OpenSpec.ofChange fnExactLiftSpec)

/-- ITS FALSE NEIGHBOUR: 'it returns false'. Refute it at one input. -/
def fnExactLiftWrong : ChangeSpec := { name := "fnExactLift", fn := fun _ => fun
  | [d] => { results := [.lit (.bool false)], args := [d] }
  | _ => none }
def FnExactLiftWrongFalsely : Prop := fnExactLiftRow.holds Try.pinned (OpenSpec.ofChange fnExactLiftWrong)

/-- 'laws.FnExactUnlift': WHATEVER THE INPUT: true; the input reads as it did. -/
def fnExactUnliftSpec : ChangeSpec := { name := "fnExactUnlift", fn := fun _ => fun
  | [d] => { results := [.lit (.bool true)], args := [d] }
  | _ => none }
def fnExactUnliftRow : OpenClaim := { program := "ytkeplngifceegaa", sum := "a6e390dccecf424a180343968b2551e4724426b5957ebec802241def3115170c", func := "loop.example/g00016/laws.FnExactUnlift", spec := "fnExactUnlift", apart := false }
def FnExactUnliftSaid : Prop := fnExactUnliftRow.holds Try.pinned (OpenSpec.ofChange fnExactUnliftSpec)

/-- ITS FALSE NEIGHBOUR: 'it returns false'. Refute it at one input. -/
def fnExactUnliftWrong : ChangeSpec := { name := "fnExactUnlift", fn := fun _ => fun
  | [d] => { results := [.lit (.bool false)], args := [d] }
  | _ => none }
def FnExactUnliftWrongFalsely : Prop := fnExactUnliftRow.holds Try.pinned (OpenSpec.ofChange fnExactUnliftWrong)

/-- 'laws.FnExactGoodPlane': WHATEVER THE INPUT: true; the input reads as it did. -/
def fnExactGoodPlaneSpec : ChangeSpec := { name := "fnExactGoodPlane", fn := fun _ => fun
  | [d] => { results := [.lit (.bool true)], args := [d] }
  | _ => none }
def fnExactGoodPlaneRow : OpenClaim := { program := "ytkeplngifceegaa", sum := "a6e390dccecf424a180343968b2551e4724426b5957ebec802241def3115170c", func := "loop.example/g00016/laws.FnExactGoodPlane", spec := "fnExactGoodPlane", apart := false }
def FnExactGoodPlaneSaid : Prop := fnExactGoodPlaneRow.holds Try.pinned (OpenSpec.ofChange fnExactGoodPlaneSpec)

/-- ITS FALSE NEIGHBOUR: 'it returns false'. Refute it at one input. -/
def fnExactGoodPlaneWrong : ChangeSpec := { name := "fnExactGoodPlane", fn := fun _ => fun
  | [d] => { results := [.lit (.bool false)], args := [d] }
  | _ => none }
def FnExactGoodPlaneWrongFalsely : Prop := fnExactGoodPlaneRow.holds Try.pinned (OpenSpec.ofChange fnExactGoodPlaneWrong)

/-- 'laws.FnExactShrink': WHATEVER THE INPUT: true; the input reads as it did. -/
def fnExactShrinkSpec : ChangeSpec := { name := "fnExactShrink", fn := fun _ => fun
  | [d1, d2] => { results := [.lit (.bool true)], args := [d1, d2] }
  | _ => none }
def fnExactShrinkRow : OpenClaim := { program := "ytkeplngifceegaa", sum := "a6e390dccecf424a180343968b2551e4724426b5957ebec802241def3115170c", func := "loop.example/g00016/laws.FnExactShrink", spec := "fnExactShrink", apart := false }
def FnExactShrinkSaid : Prop := fnExactShrinkRow.holds Try.pinned (OpenSpec.ofChange fnExactShrinkSpec)

/-- ITS FALSE NEIGHBOUR: 'it returns false'. Refute it at one input. -/
def fnExactShrinkWrong : ChangeSpec := { name := "fnExactShrink", fn := fun _ => fun
  | [d1, d2] => { results := [.lit (.bool false)], args := [d1, d2] }
  | _ => none }
def FnExactShrinkWrongFalsely : Prop := fnExactShrinkRow.holds Try.pinned (OpenSpec.ofChange fnExactShrinkWrong)

/-- 'laws.FnExactGrow': WHATEVER THE INPUT: true; the input reads as it did. -/
def fnExactGrowSpec : ChangeSpec := { name := "fnExactGrow", fn := fun _ => fun
  | [d1, d2, d3] => { results := [.lit (.bool true)], args := [d1, d2, d3] }
  | _ => none }
def fnExactGrowRow : OpenClaim := { program := "ytkeplngifceegaa", sum := "a6e390dccecf424a180343968b2551e4724426b5957ebec802241def3115170c", func := "loop.example/g00016/laws.FnExactGrow", spec := "fnExactGrow", apart := false }
def FnExactGrowSaid : Prop := fnExactGrowRow.holds Try.pinned (OpenSpec.ofChange fnExactGrowSpec)

/-- ITS FALSE NEIGHBOUR: 'it returns false'. Refute it at one input. -/
def fnExactGrowWrong : ChangeSpec := { name := "fnExactGrow", fn := fun _ => fun
  | [d1, d2, d3] => { results := [.lit (.bool false)], args := [d1, d2, d3] }
  | _ => none }
def FnExactGrowWrongFalsely : Prop := fnExactGrowRow.holds Try.pinned (OpenSpec.ofChange fnExactGrowWrong)

/-- 'laws.FnExactResize': WHATEVER THE INPUT: true; the input reads as it did. -/
def fnExactResizeSpec : ChangeSpec := { name := "fnExactResize", fn := fun _ => fun
  | [d1, d2, d3] => { results := [.lit (.bool true)], args := [d1, d2, d3] }
  | _ => none }
def fnExactResizeRow : OpenClaim := { program := "ytkeplngifceegaa", sum := "a6e390dccecf424a180343968b2551e4724426b5957ebec802241def3115170c", func := "loop.example/g00016/laws.FnExactResize", spec := "fnExactResize", apart := false }
def FnExactResizeSaid : Prop := fnExactResizeRow.holds Try.pinned (OpenSpec.ofChange fnExactResizeSpec)

/-- ITS FALSE NEIGHBOUR: 'it returns false'. Refute it at one input. -/
def fnExactResizeWrong : ChangeSpec := { name := "fnExactResize", fn := fun _ => fun
  | [d1, d2, d3] => { results := [.lit (.bool false)], args := [d1, d2, d3] }
  | _ => none }
def FnExactResizeWrongFalsely : Prop := fnExactResizeRow.holds Try.pinned (OpenSpec.ofChange fnExactResizeWrong)

/- THE SECOND FORM. 'bulk': how many values and letters a reading holds, each counted each time it is reached (what is shared counts as often as it is met; a slice's spare places count too). A statement '..UptoSaid' is the law's where the arguments, and the package variables that the reading takes, are together of bulk at most 1048576: NARROWER than '..Said'. Prove '..Said' where nothing that the law and all that it calls make is longer than what came in: it says more and counts as full. Else prove '..UptoSaid'. A law counts once. -/
mutual
def uptoBulk {H : Type} : DataW H → Nat
  | .lit (.string bytes) => bytes.length + 1
  | .lit _ => 1
  | .nil => 1
  | .ptr d => uptoBulk d + 1
  | .slice elems spare => uptoBulkAll elems + uptoBulkAll spare + 1
  | .agg parts => uptoBulkAll parts + 1
  | .iface _ d => uptoBulk d + 1
  | .map entries => uptoBulkEntries entries + 1
  | .held _ => 1
def uptoBulkAll {H : Type} : List (DataW H) → Nat
  | [] => 0
  | d :: r => uptoBulk d + uptoBulkAll r
def uptoBulkEntries {H : Type} : List (Lit × DataW H) → Nat
  | [] => 0
  | x :: r => uptoBulkEntry x + uptoBulkEntries r
def uptoBulkEntry {H : Type} : Lit × DataW H → Nat
  | (.string bytes, d) => bytes.length + uptoBulk d + 1
  | (_, d) => uptoBulk d + 1
 end
def uptoSmall : (H : Type) → List (DataW H) → Bool := fun _ ds => decide (uptoBulkAll ds ≤ 1048576)
def OpenSpec.upto (s : _root_.Go.ChangeSpec) : _root_.Go.OpenSpec := { _root_.Go.OpenSpec.ofChange s with cond := some uptoSmall }

/-- 'laws.FnColours', WHERE WHAT IT READS IS OF BULK AT MOST 1048576: true; the input reads as it did. -/
def fnColoursUptoRow : OpenClaim := { program := "ytkeplngifceegaa", sum := "a6e390dccecf424a180343968b2551e4724426b5957ebec802241def3115170c", func := "loop.example/g00016/laws.FnColours", spec := "fnColours", apart := false, narrowed := true }
def FnColoursUptoSaid : Prop := fnColoursUptoRow.holds Try.pinned (OpenSpec.upto fnColoursSpec)

/-- 'laws.FnSizes', WHERE WHAT IT READS IS OF BULK AT MOST 1048576: true; the input reads as it did. -/
def fnSizesUptoRow : OpenClaim := { program := "ytkeplngifceegaa", sum := "a6e390dccecf424a180343968b2551e4724426b5957ebec802241def3115170c", func := "loop.example/g00016/laws.FnSizes", spec := "fnSizes", apart := false, narrowed := true }
def FnSizesUptoSaid : Prop := fnSizesUptoRow.holds Try.pinned (OpenSpec.upto fnSizesSpec)

/-- 'laws.FnExactBright', WHERE WHAT IT READS IS OF BULK AT MOST 1048576: true; the input reads as it did. -/
def fnExactBrightUptoRow : OpenClaim := { program := "ytkeplngifceegaa", sum := "a6e390dccecf424a180343968b2551e4724426b5957ebec802241def3115170c", func := "loop.example/g00016/laws.FnExactBright", spec := "fnExactBright", apart := false, narrowed := true }
def FnExactBrightUptoSaid : Prop := fnExactBrightUptoRow.holds Try.pinned (OpenSpec.upto fnExactBrightSpec)

/-- 'laws.FnExactUnbright', WHERE WHAT IT READS IS OF BULK AT MOST 1048576: true; the input reads as it did. -/
def fnExactUnbrightUptoRow : OpenClaim := { program := "ytkeplngifceegaa", sum := "a6e390dccecf424a180343968b2551e4724426b5957ebec802241def3115170c", func := "loop.example/g00016/laws.FnExactUnbright", spec := "fnExactUnbright", apart := false, narrowed := true }
def FnExactUnbrightUptoSaid : Prop := fnExactUnbrightUptoRow.holds Try.pinned (OpenSpec.upto fnExactUnbrightSpec)

/-- 'laws.FnExactLift', WHERE WHAT IT READS IS OF BULK AT MOST 1048576: true; the input reads as it did. -/
def fnExactLiftUptoRow : OpenClaim := { program := "ytkeplngifceegaa", sum := "a6e390dccecf424a180343968b2551e4724426b5957ebec802241def3115170c", func := "loop.example/g00016/laws.FnExactLift", spec := "fnExactLift", apart := false, narrowed := true }
def FnExactLiftUptoSaid : Prop := fnExactLiftUptoRow.holds Try.pinned (OpenSpec.upto fnExactLiftSpec)

/-- 'laws.FnExactUnlift', WHERE WHAT IT READS IS OF BULK AT MOST 1048576: true; the input reads as it did. -/
def fnExactUnliftUptoRow : OpenClaim := { program := "ytkeplngifceegaa", sum := "a6e390dccecf424a180343968b2551e4724426b5957ebec802241def3115170c", func := "loop.example/g00016/laws.FnExactUnlift", spec := "fnExactUnlift", apart := false, narrowed := true }
def FnExactUnliftUptoSaid : Prop := fnExactUnliftUptoRow.holds Try.pinned (OpenSpec.upto fnExactUnliftSpec)

/-- 'laws.FnExactGoodPlane', WHERE WHAT IT READS IS OF BULK AT MOST 1048576: true; the input reads as it did. -/
def fnExactGoodPlaneUptoRow : OpenClaim := { program := "ytkeplngifceegaa", sum := "a6e390dccecf424a180343968b2551e4724426b5957ebec802241def3115170c", func := "loop.example/g00016/laws.FnExactGoodPlane", spec := "fnExactGoodPlane", apart := false, narrowed := true }
def FnExactGoodPlaneUptoSaid : Prop := fnExactGoodPlaneUptoRow.holds Try.pinned (OpenSpec.upto fnExactGoodPlaneSpec)

/-- 'laws.FnExactShrink', WHERE WHAT IT READS IS OF BULK AT MOST 1048576: true; the input reads as it did. -/
def fnExactShrinkUptoRow : OpenClaim := { program := "ytkeplngifceegaa", sum := "a6e390dccecf424a180343968b2551e4724426b5957ebec802241def3115170c", func := "loop.example/g00016/laws.FnExactShrink", spec := "fnExactShrink", apart := false, narrowed := true }
def FnExactShrinkUptoSaid : Prop := fnExactShrinkUptoRow.holds Try.pinned (OpenSpec.upto fnExactShrinkSpec)

/-- 'laws.FnExactGrow', WHERE WHAT IT READS IS OF BULK AT MOST 1048576: true; the input reads as it did. -/
def fnExactGrowUptoRow : OpenClaim := { program := "ytkeplngifceegaa", sum := "a6e390dccecf424a180343968b2551e4724426b5957ebec802241def3115170c", func := "loop.example/g00016/laws.FnExactGrow", spec := "fnExactGrow", apart := false, narrowed := true }
def FnExactGrowUptoSaid : Prop := fnExactGrowUptoRow.holds Try.pinned (OpenSpec.upto fnExactGrowSpec)

/-- 'laws.FnExactResize', WHERE WHAT IT READS IS OF BULK AT MOST 1048576: true; the input reads as it did. -/
def fnExactResizeUptoRow : OpenClaim := { program := "ytkeplngifceegaa", sum := "a6e390dccecf424a180343968b2551e4724426b5957ebec802241def3115170c", func := "loop.example/g00016/laws.FnExactResize", spec := "fnExactResize", apart := false, narrowed := true }
def FnExactResizeUptoSaid : Prop := fnExactResizeUptoRow.holds Try.pinned (OpenSpec.upto fnExactResizeSpec)

end Rows
end Go.Proofs.Ytkeplngifceegaa
