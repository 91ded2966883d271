/-
  No cell of these rows narrows 'for every input' (looked for: loops, veiled, ifaces, maps, wideKeys, modest, calm, conditions, laid).
  DERIVED. THE GIVEN ROWS OF THIS SEAT. 4 by the template 'for every input the law returns true; each argument reads behind the call as it read before'; 0 by the template 'total and deterministic' (their statements: YtbdegomnlconjaaTotals.lean).
  GIVEN WITH THE SEED: the statements are not yours to turn. If you find one false, say at which input.
  Laid BY PROGRAM, IN A SANDBOX (cutbox-rows.mjs): the forced cells as the released guide's own fill.sh prints them over the translation 30da13188e5186e9… (all of the seat's roots in one cut). By AI agents, Wed Nov 11 2026. No macro, syntax, notation, axiom, sorry.
-/
import Derived.Test.YtbdegomnlconjaaChecked
import GoSem.Claim
import GoSem.ClaimJoined
import GoSem.ClaimMapViews
import Derived.JoinedTies
import Derived.KernelRfl
namespace Go.Proofs.Ytbdegomnlconjaa
/- THE CELL 'sum', in the pinned program and in every row, IS THE sha256 OF THE DUMP (.gsa) THAT YtbdegomnlconjaaProg.lean LOADS. Nothing in Lean hashes anything: it is a label: what it is worth is what the hold of that sum in a sandbox is worth. -/
noncomputable def Try.pinned : Pinned := { name := "ytbdegomnlconjaa", sum := "30da13188e5186e9b1a4531326ebdd6f065c3a0d6b6cb7b3c18e0c1d0c088cd0", checked := Try.checked }
namespace Rows
def none {H : Type} : Left H := { results := [], args := [] }

/-- 'laws.FnBetween': WHATEVER THE INPUT: true; the input reads as it did. -/
def fnBetweenSpec : ChangeSpec := { name := "fnBetween", fn := fun _ => fun
  | [d] => { results := [.lit (.bool true)], args := [d] }
  | _ => none }
def fnBetweenRow : OpenClaim := { program := "ytbdegomnlconjaa", sum := "30da13188e5186e9b1a4531326ebdd6f065c3a0d6b6cb7b3c18e0c1d0c088cd0", func := "loop.example/g00016/laws.FnBetween", spec := "fnBetween", apart := false }
def FnBetweenSaid : Prop := fnBetweenRow.holds Try.pinned (OpenSpec.ofChange fnBetweenSpec)

/-- ITS FALSE NEIGHBOUR: 'it returns false'. Refute it at one input. -/
def fnBetweenWrong : ChangeSpec := { name := "fnBetween", fn := fun _ => fun
  | [d] => { results := [.lit (.bool false)], args := [d] }
  | _ => none }
def FnBetweenWrongFalsely : Prop := fnBetweenRow.holds Try.pinned (OpenSpec.ofChange fnBetweenWrong)

/-- 'laws.FnExactDecodeSound': WHATEVER THE INPUT: true; the input reads as it did. -/
def fnExactDecodeSoundSpec : ChangeSpec := { name := "fnExactDecodeSound", fn := fun _ => fun
  | [d] => { results := [.lit (.bool true)], args := [d] }
  | _ => none }
def fnExactDecodeSoundRow : OpenClaim := { program := "ytbdegomnlconjaa", sum := "30da13188e5186e9b1a4531326ebdd6f065c3a0d6b6cb7b3c18e0c1d0c088cd0", func := "loop.example/g00016/laws.FnExactDecodeSound", spec := "fnExactDecodeSound", unfollowed := true, recurses := true, apart := false }
def FnExactDecodeSoundSaid : Prop := fnExactDecodeSoundRow.holds Try.pinned (OpenSpec.ofChange fnExactDecodeSoundSpec)

/-- ITS FALSE NEIGHBOUR: 'it returns false'. Refute it at one input. -/
def fnExactDecodeSoundWrong : ChangeSpec := { name := "fnExactDecodeSound", fn := fun _ => fun
  | [d] => { results := [.lit (.bool false)], args := [d] }
  | _ => none }
def FnExactDecodeSoundWrongFalsely : Prop := fnExactDecodeSoundRow.holds Try.pinned (OpenSpec.ofChange fnExactDecodeSoundWrong)

/-- 'laws.FnExactScreens': WHATEVER THE INPUT: true; the input reads as it did. -/
def fnExactScreensSpec : ChangeSpec := { name := "fnExactScreens", fn := fun _ => fun
  | [d] => { results := [.lit (.bool true)], args := [d] }
  | _ => none }
def fnExactScreensRow : OpenClaim := { program := "ytbdegomnlconjaa", sum := "30da13188e5186e9b1a4531326ebdd6f065c3a0d6b6cb7b3c18e0c1d0c088cd0", func := "loop.example/g00016/laws.FnExactScreens", spec := "fnExactScreens", apart := false }
def FnExactScreensSaid : Prop := fnExactScreensRow.holds Try.pinned (OpenSpec.ofChange fnExactScreensSpec)

/-- ITS FALSE NEIGHBOUR: 'it returns false'. Refute it at one input. -/
def fnExactScreensWrong : ChangeSpec := { name := "fnExactScreens", fn := fun _ => fun
  | [d] => { results := [.lit (.bool false)], args := [d] }
  | _ => none }
def FnExactScreensWrongFalsely : Prop := fnExactScreensRow.holds Try.pinned (OpenSpec.ofChange fnExactScreensWrong)

/-- 'laws.FnExactBetween': WHATEVER THE INPUT: true; the input reads as it did. -/
def fnExactBetweenSpec : ChangeSpec := { name := "fnExactBetween", fn := fun _ => fun
  | [d1, d2, d3, d4] => { results := [.lit (.bool true)], args := [d1, d2, d3, d4] }
  | _ => none }
def fnExactBetweenRow : OpenClaim := { program := "ytbdegomnlconjaa", sum := "30da13188e5186e9b1a4531326ebdd6f065c3a0d6b6cb7b3c18e0c1d0c088cd0", func := "loop.example/g00016/laws.FnExactBetween", spec := "fnExactBetween", apart := false }
def FnExactBetweenSaid : Prop := fnExactBetweenRow.holds Try.pinned (OpenSpec.ofChange fnExactBetweenSpec)

/-- ITS FALSE NEIGHBOUR: 'it returns false'. Refute it at one input. -/
def fnExactBetweenWrong : ChangeSpec := { name := "fnExactBetween", fn := fun _ => fun
  | [d1, d2, d3, d4] => { results := [.lit (.bool false)], args := [d1, d2, d3, d4] }
  | _ => none }
def FnExactBetweenWrongFalsely : Prop := fnExactBetweenRow.holds Try.pinned (OpenSpec.ofChange fnExactBetweenWrong)

/- THE SECOND FORM. 'bulk': how many values and letters a reading holds, each counted each time it is reached (what is shared counts as often as it is met; a slice's spare places count too). A statement '..UptoSaid' is the law's where the arguments, and the package variables that the reading takes, are together of bulk at most 1048576: NARROWER than '..Said'. Prove '..Said' where nothing that the law and all that it calls make is longer than what came in: it says more and counts as full. Else prove '..UptoSaid'. A law counts once. -/
mutual
def uptoBulk {H : Type} : DataW H → Nat
  | .lit (.string bytes) => bytes.length + 1
  | .lit _ => 1
  | .nil => 1
  | .ptr d => uptoBulk d + 1
  | .slice elems spare => uptoBulkAll elems + uptoBulkAll spare + 1
  | .agg parts => uptoBulkAll parts + 1
  | .iface _ d => uptoBulk d + 1
  | .map entries => uptoBulkEntries entries + 1
  | .held _ => 1
def uptoBulkAll {H : Type} : List (DataW H) → Nat
  | [] => 0
  | d :: r => uptoBulk d + uptoBulkAll r
def uptoBulkEntries {H : Type} : List (Lit × DataW H) → Nat
  | [] => 0
  | x :: r => uptoBulkEntry x + uptoBulkEntries r
def uptoBulkEntry {H : Type} : Lit × DataW H → Nat
  | (.string bytes, d) => bytes.length + uptoBulk d + 1
  | (_, d) => uptoBulk d + 1
 end
def uptoSmall : (H : Type) → List (DataW H) → Bool := fun _ ds => decide (uptoBulkAll ds ≤ 1048576)
def OpenSpec.upto (s : _root_.Go.ChangeSpec) : _root_.Go.OpenSpec := { _root_.Go.OpenSpec.ofChange s with cond := some uptoSmall }

/-- 'laws.FnBetween', WHERE WHAT IT READS IS OF BULK AT MOST 1048576: true; the input reads as it did. -/
def fnBetweenUptoRow : OpenClaim := { program := "ytbdegomnlconjaa", sum := "30da13188e5186e9b1a4531326ebdd6f065c3a0d6b6cb7b3c18e0c1d0c088cd0", func := "loop.example/g00016/laws.FnBetween", spec := "fnBetween", apart := false, narrowed := true }
def FnBetweenUptoSaid : Prop := fnBetweenUptoRow.holds Try.pinned (OpenSpec.upto fnBetweenSpec)

/-- 'laws.FnExactDecodeSound', WHERE WHAT IT READS IS OF BULK AT MOST 1048576: true; the input reads as it did. -/
def fnExactDecodeSoundUptoRow : OpenClaim := { program := "ytbdegomnlconjaa", sum := "30da13188e5186e9b1a4531326ebdd6f065c3a0d6b6cb7b3c18e0c1d0c088cd0", func := "loop.example/g00016/laws.FnExactDecodeSound", spec := "fnExactDecodeSound", unfollowed := true, recurses := true, apart := false, narrowed := true }
def FnExactDecodeSoundUptoSaid : Prop := fnExactDecodeSoundUptoRow.holds Try.pinned (OpenSpec.upto fnExactDecodeSoundSpec)

/-- 'laws.FnExactScreens', WHERE WHAT IT READS IS OF BULK AT MOST 1048576: true; the input reads as it did. -/
def fnExactScreensUptoRow : OpenClaim := { program := "ytbdegomnlconjaa", sum := "30da13188e5186e9b1a4531326ebdd6f065c3a0d6b6cb7b3c18e0c1d0c088cd0", func := "loop.example/g00016/laws.FnExactScreens", spec := "fnExactScreens", apart := false, narrowed := true }
def FnExactScreensUptoSaid : Prop := fnExactScreensUptoRow.holds Try.pinned (OpenSpec.upto fnExactScreensSpec)

/-- 'laws.FnExactBetween', WHERE WHAT IT READS IS OF BULK AT MOST 1048576: true; the input reads as it did. -/
def fnExactBetweenUptoRow : OpenClaim := { program := "ytbdegomnlconjaa", sum := "30da13188e5186e9b1a4531326ebdd6f065c3a0d6b6cb7b3c18e0c1d0c088cd0", func := "loop.example/g00016/laws.FnExactBetween", spec := "fnExactBetween", apart := false, narrowed := true }
def FnExactBetweenUptoSaid : Prop := fnExactBetweenUptoRow.holds Try.pinned (OpenSpec.upto fnExactBetweenSpec)

end Rows
end Go.Proofs.Ytbdegomnlconjaa
