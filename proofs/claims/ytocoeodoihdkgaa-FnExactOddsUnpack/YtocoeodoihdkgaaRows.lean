/-
  No cell of these rows narrows 'for every input' (looked for: loops, veiled, ifaces, maps, wideKeys, modest, calm, conditions, laid).
  DERIVED. THE GIVEN ROWS OF THIS SEAT. 10 by the template 'for every input the law returns true; each argument reads behind the call as it read before'; 0 by the template 'total and deterministic' (their statements: YtocoeodoihdkgaaTotals.lean).
  GIVEN WITH THE SEED: the statements are not yours to turn. If you find one false, say at which input.
  Laid BY PROGRAM, IN A SANDBOX (cutbox-rows.mjs): the forced cells as the released guide's own fill.sh prints them over the translation f800613caa20ce28… (all of the seat's roots in one cut). By AI agents, Wed Nov 11 2026. No macro, syntax, notation, axiom, sorry.
-/
import Derived.Test.YtocoeodoihdkgaaChecked
import GoSem.Claim
import GoSem.ClaimJoined
import GoSem.ClaimMapViews
import Derived.JoinedTies
import Derived.KernelRfl
namespace Go.Proofs.Ytocoeodoihdkgaa
/- THE CELL 'sum', in the pinned program and in every row, IS THE sha256 OF THE DUMP (.gsa) THAT YtocoeodoihdkgaaProg.lean LOADS. Nothing in Lean hashes anything: it is a label: what it is worth is what the hold of that sum in a sandbox is worth. -/
noncomputable def Try.pinned : Pinned := { name := "ytocoeodoihdkgaa", sum := "f800613caa20ce282b4de4ebb61e201ce6bb77109f4b133ba7005d778f5364ba", checked := Try.checked }
namespace Rows
def none {H : Type} : Left H := { results := [], args := [] }

/-- 'laws.FnWaves': WHATEVER THE INPUT: true; the input reads as it did. -/
def fnWavesSpec : ChangeSpec := { name := "fnWaves", fn := fun _ => fun
  | [d1, d2] => { results := [.lit (.bool true)], args := [d1, d2] }
  | _ => none }
def fnWavesRow : OpenClaim := { program := "ytocoeodoihdkgaa", sum := "f800613caa20ce282b4de4ebb61e201ce6bb77109f4b133ba7005d778f5364ba", func := "loop.example/g00016/laws.FnWaves", spec := "fnWaves", apart := false }
def FnWavesSaid : Prop := fnWavesRow.holds Try.pinned (OpenSpec.ofChange fnWavesSpec)

/-- ITS FALSE NEIGHBOUR: 'it returns false'. Refute it at one input. -/
def fnWavesWrong : ChangeSpec := { name := "fnWaves", fn := fun _ => fun
  | [d1, d2] => { results := [.lit (.bool false)], args := [d1, d2] }
  | _ => none }
def FnWavesWrongFalsely : Prop := fnWavesRow.holds Try.pinned (OpenSpec.ofChange fnWavesWrong)

/-- 'laws.FnOdds': WHATEVER THE INPUT: true; the input reads as it did. -/
def fnOddsSpec : ChangeSpec := { name := "fnOdds", fn := fun _ => fun
  | [d] => { results := [.lit (.bool true)], args := [d] }
  | _ => none }
def fnOddsRow : OpenClaim := { program := "ytocoeodoihdkgaa", sum := "f800613caa20ce282b4de4ebb61e201ce6bb77109f4b133ba7005d778f5364ba", func := "loop.example/g00016/laws.FnOdds", spec := "fnOdds", apart := false }
def FnOddsSaid : Prop := fnOddsRow.holds Try.pinned (OpenSpec.ofChange fnOddsSpec)

/-- ITS FALSE NEIGHBOUR: 'it returns false'. Refute it at one input. -/
def fnOddsWrong : ChangeSpec := { name := "fnOdds", fn := fun _ => fun
  | [d] => { results := [.lit (.bool false)], args := [d] }
  | _ => none }
def FnOddsWrongFalsely : Prop := fnOddsRow.holds Try.pinned (OpenSpec.ofChange fnOddsWrong)

/-- 'laws.FnMarks': WHATEVER THE INPUT: true; the input reads as it did. -/
def fnMarksSpec : ChangeSpec := { name := "fnMarks", fn := fun _ => fun
  | [d] => { results := [.lit (.bool true)], args := [d] }
  | _ => none }
def fnMarksRow : OpenClaim := { program := "ytocoeodoihdkgaa", sum := "f800613caa20ce282b4de4ebb61e201ce6bb77109f4b133ba7005d778f5364ba", func := "loop.example/g00016/laws.FnMarks", spec := "fnMarks", apart := false }
def FnMarksSaid : Prop := fnMarksRow.holds Try.pinned (OpenSpec.ofChange fnMarksSpec)

/-- ITS FALSE NEIGHBOUR: 'it returns false'. Refute it at one input. -/
def fnMarksWrong : ChangeSpec := { name := "fnMarks", fn := fun _ => fun
  | [d] => { results := [.lit (.bool false)], args := [d] }
  | _ => none }
def FnMarksWrongFalsely : Prop := fnMarksRow.holds Try.pinned (OpenSpec.ofChange fnMarksWrong)

/-- 'laws.FnExactGoodSound': WHATEVER THE INPUT: true; the input reads as it did. -/
def fnExactGoodSoundSpec : ChangeSpec := { name := "fnExactGoodSound", fn := fun _ => fun
  | [d] => { results := [.lit (.bool true)], args := [d] }
  | _ => none }
def fnExactGoodSoundRow : OpenClaim := { program := "ytocoeodoihdkgaa", sum := "f800613caa20ce282b4de4ebb61e201ce6bb77109f4b133ba7005d778f5364ba", func := "loop.example/g00016/laws.FnExactGoodSound", spec := "fnExactGoodSound", apart := false }
def FnExactGoodSoundSaid : Prop := fnExactGoodSoundRow.holds Try.pinned (OpenSpec.ofChange fnExactGoodSoundSpec)

/-- ITS FALSE NEIGHBOUR: 'it returns false'. Refute it at one input. -/
def fnExactGoodSoundWrong : ChangeSpec := { name := "fnExactGoodSound", fn := fun _ => fun
  | [d] => { results := [.lit (.bool false)], args := [d] }
  | _ => none }
def FnExactGoodSoundWrongFalsely : Prop := fnExactGoodSoundRow.holds Try.pinned (OpenSpec.ofChange fnExactGoodSoundWrong)

/-- 'laws.FnExactWaves': WHATEVER THE INPUT: true; the input reads as it did. -/
def fnExactWavesSpec : ChangeSpec := { name := "fnExactWaves", fn := fun _ => fun
  | [d] => { results := [.lit (.bool true)], args := [d] }
  | _ => none }
def fnExactWavesRow : OpenClaim := { program := "ytocoeodoihdkgaa", sum := "f800613caa20ce282b4de4ebb61e201ce6bb77109f4b133ba7005d778f5364ba", func := "loop.example/g00016/laws.FnExactWaves", spec := "fnExactWaves", apart := false }
def FnExactWavesSaid : Prop := fnExactWavesRow.holds Try.pinned (OpenSpec.ofChange fnExactWavesSpec)

/-- ITS FALSE NEIGHBOUR: 'it returns false'. Refute it at one input. -/
def fnExactWavesWrong : ChangeSpec := { name := "fnExactWaves", fn := fun _ => fun
  | [d] => { results := [.lit (.bool false)], args := [d] }
  | _ => none }
def FnExactWavesWrongFalsely : Prop := fnExactWavesRow.holds Try.pinned (OpenSpec.ofChange fnExactWavesWrong)

/-- 'laws.FnExactPowers': WHATEVER THE INPUT: true; the input reads as it did. -/
def fnExactPowersSpec : ChangeSpec := { name := "fnExactPowers", fn := fun _ => fun
  | [d] => { results := [.lit (.bool true)], args := [d] }
  | _ => none }
def fnExactPowersRow : OpenClaim := { program := "ytocoeodoihdkgaa", sum := "f800613caa20ce282b4de4ebb61e201ce6bb77109f4b133ba7005d778f5364ba", func := "loop.example/g00016/laws.FnExactPowers", spec := "fnExactPowers", apart := false }
def FnExactPowersSaid : Prop := fnExactPowersRow.holds Try.pinned (OpenSpec.ofChange fnExactPowersSpec)

/-- ITS FALSE NEIGHBOUR: 'it returns false'. Refute it at one input. -/
def fnExactPowersWrong : ChangeSpec := { name := "fnExactPowers", fn := fun _ => fun
  | [d] => { results := [.lit (.bool false)], args := [d] }
  | _ => none }
def FnExactPowersWrongFalsely : Prop := fnExactPowersRow.holds Try.pinned (OpenSpec.ofChange fnExactPowersWrong)

/-- 'laws.FnExactOddsPack': WHATEVER THE INPUT: true; the input reads as it did. -/
def fnExactOddsPackSpec : ChangeSpec := { name := "fnExactOddsPack", fn := fun _ => fun
  | [d1, d2] => { results := [.lit (.bool true)], args := [d1, d2] }
  | _ => none }
def fnExactOddsPackRow : OpenClaim := { program := "ytocoeodoihdkgaa", sum := "f800613caa20ce282b4de4ebb61e201ce6bb77109f4b133ba7005d778f5364ba", func := "loop.example/g00016/laws.FnExactOddsPack", spec := "fnExactOddsPack", apart := false }
def FnExactOddsPackSaid : Prop := fnExactOddsPackRow.holds Try.pinned (OpenSpec.ofChange fnExactOddsPackSpec)

/-- ITS FALSE NEIGHBOUR: 'it returns false'. Refute it at one input. -/
def fnExactOddsPackWrong : ChangeSpec := { name := "fnExactOddsPack", fn := fun _ => fun
  | [d1, d2] => { results := [.lit (.bool false)], args := [d1, d2] }
  | _ => none }
def FnExactOddsPackWrongFalsely : Prop := fnExactOddsPackRow.holds Try.pinned (OpenSpec.ofChange fnExactOddsPackWrong)

/-- 'laws.FnExactOddsUnpack': WHATEVER THE INPUT: true; the input reads as it did. -/
def fnExactOddsUnpackSpec : ChangeSpec := { name := "fnExactOddsUnpack", fn := fun _ => fun
  | [d1, d2, d3] => { results := [.lit (.bool true)], args := [d1, d2, d3] }
  | _ => none }
def fnExactOddsUnpackRow : OpenClaim := { program := "ytocoeodoihdkgaa", sum := "f800613caa20ce282b4de4ebb61e201ce6bb77109f4b133ba7005d778f5364ba", func := "loop.example/g00016/laws.FnExactOddsUnpack", spec := "fnExactOddsUnpack", apart := false }
def FnExactOddsUnpackSaid : Prop := fnExactOddsUnpackRow.holds Try.pinned (OpenSpec.ofChange fnExactOddsUnpackSpec)

/-- ITS FALSE NEIGHBOUR: 'it returns false'. Refute it at one input. -/
def fnExactOddsUnpackWrong : ChangeSpec := { name := "fnExactOddsUnpack", fn := fun _ => fun
  | [d1, d2, d3] => { results := [.lit (.bool false)], args := [d1, d2, d3] }
  | _ => none }
def FnExactOddsUnpackWrongFalsely : Prop := fnExactOddsUnpackRow.holds Try.pinned (OpenSpec.ofChange fnExactOddsUnpackWrong)

/-- 'laws.FnExactOddsCost': WHATEVER THE INPUT: true; the input reads as it did. -/
def fnExactOddsCostSpec : ChangeSpec := { name := "fnExactOddsCost", fn := fun _ => fun
  | [d1, d2] => { results := [.lit (.bool true)], args := [d1, d2] }
  | _ => none }
def fnExactOddsCostRow : OpenClaim := { program := "ytocoeodoihdkgaa", sum := "f800613caa20ce282b4de4ebb61e201ce6bb77109f4b133ba7005d778f5364ba", func := "loop.example/g00016/laws.FnExactOddsCost", spec := "fnExactOddsCost", apart := false }
def FnExactOddsCostSaid : Prop := fnExactOddsCostRow.holds Try.pinned (OpenSpec.ofChange fnExactOddsCostSpec)

/-- ITS FALSE NEIGHBOUR: 'it returns false'. Refute it at one input. -/
def fnExactOddsCostWrong : ChangeSpec := { name := "fnExactOddsCost", fn := fun _ => fun
  | [d1, d2] => { results := [.lit (.bool false)], args := [d1, d2] }
  | _ => none }
def FnExactOddsCostWrongFalsely : Prop := fnExactOddsCostRow.holds Try.pinned (OpenSpec.ofChange fnExactOddsCostWrong)

/-- 'laws.FnExactMarks': WHATEVER THE INPUT: true; the input reads as it did. -/
def fnExactMarksSpec : ChangeSpec := { name := "fnExactMarks", fn := fun _ => fun
  | [d1, d2] => { results := [.lit (.bool true)], args := [d1, d2] }
  | _ => none }
def fnExactMarksRow : OpenClaim := { program := "ytocoeodoihdkgaa", sum := "f800613caa20ce282b4de4ebb61e201ce6bb77109f4b133ba7005d778f5364ba", func := "loop.example/g00016/laws.FnExactMarks", spec := "fnExactMarks", apart := false }
def FnExactMarksSaid : Prop := fnExactMarksRow.holds Try.pinned (OpenSpec.ofChange fnExactMarksSpec)

/-- ITS FALSE NEIGHBOUR: 'it returns false'. Refute it at one input. -/
def fnExactMarksWrong : ChangeSpec := { name := "fnExactMarks", fn := fun _ => fun
  | [d1, d2] => { results := [.lit (.bool false)], args := [d1, d2] }
  | _ => none }
def FnExactMarksWrongFalsely : Prop := fnExactMarksRow.holds Try.pinned (OpenSpec.ofChange fnExactMarksWrong)

/- THE SECOND FORM. 'bulk': how many values and letters a reading holds, each counted each time it is reached (what is shared counts as often as it is met; a slice's spare places count too). A statement '..UptoSaid' is the law's where the arguments, and the package variables that the reading takes, are together of bulk at most 1048576: NARROWER than '..Said'. Prove '..Said' where nothing that the law and all that it calls make is longer than what came in: it says more and counts as full. Else prove '..UptoSaid'. A law counts once. -/
mutual
def uptoBulk {H : Type} : DataW H → Nat
  | .lit (.string bytes) => bytes.length + 1
  | .lit _ => 1
  | .nil => 1
  | .ptr d => uptoBulk d + 1
  | .slice elems spare => uptoBulkAll elems + uptoBulkAll spare + 1
  | .agg parts => uptoBulkAll parts + 1
  | .iface _ d => uptoBulk d + 1
  | .map entries => uptoBulkEntries entries + 1
  | .held _ => 1
def uptoBulkAll {H : Type} : List (DataW H) → Nat
  | [] => 0
  | d :: r => uptoBulk d + uptoBulkAll r
def uptoBulkEntries {H : Type} : List (Lit × DataW H) → Nat
  | [] => 0
  | x :: r => uptoBulkEntry x + uptoBulkEntries r
def uptoBulkEntry {H : Type} : Lit × DataW H → Nat
  | (.string bytes, d) => bytes.length + uptoBulk d + 1
  | (_, d) => uptoBulk d + 1
 end
def uptoSmall : (H : Type) → List (DataW H) → Bool := fun _ ds => decide (uptoBulkAll ds ≤ 1048576)
def OpenSpec.upto (s : _root_.Go.ChangeSpec) : _root_.Go.OpenSpec := { _root_.Go.OpenSpec.ofChange s with cond := some uptoSmall }

/-- 'laws.FnWaves', WHERE WHAT IT READS IS OF BULK AT MOST 1048576: true; the input reads as it did. -/
def fnWavesUptoRow : OpenClaim := { program := "ytocoeodoihdkgaa", sum := "f800613caa20ce282b4de4ebb61e201ce6bb77109f4b133ba7005d778f5364ba", func := "loop.example/g00016/laws.FnWaves", spec := "fnWaves", apart := false, narrowed := true }
def FnWavesUptoSaid : Prop := fnWavesUptoRow.holds Try.pinned (OpenSpec.upto fnWavesSpec)

/-- 'laws.FnOdds', WHERE WHAT IT READS IS OF BULK AT MOST 1048576: true; the input reads as it did. -/
def fnOddsUptoRow : OpenClaim := { program := "ytocoeodoihdkgaa", sum := "f800613caa20ce282b4de4ebb61e201ce6bb77109f4b133ba7005d778f5364ba", func := "loop.example/g00016/laws.FnOdds", spec := "fnOdds", apart := false, narrowed := true }
def FnOddsUptoSaid : Prop := fnOddsUptoRow.holds Try.pinned (OpenSpec.upto fnOddsSpec)

/-- 'laws.FnMarks', WHERE WHAT IT READS IS OF BULK AT MOST 1048576: true; the input reads as it did. -/
def fnMarksUptoRow : OpenClaim := { program := "ytocoeodoihdkgaa", sum := "f800613caa20ce282b4de4ebb61e201ce6bb77109f4b133ba7005d778f5364ba", func := "loop.example/g00016/laws.FnMarks", spec := "fnMarks", apart := false, narrowed := true }
def FnMarksUptoSaid : Prop := fnMarksUptoRow.holds Try.pinned (OpenSpec.upto fnMarksSpec)

/-- 'laws.FnExactGoodSound', WHERE WHAT IT READS IS OF BULK AT MOST 1048576: true; the input reads as it did. -/
def fnExactGoodSoundUptoRow : OpenClaim := { program := "ytocoeodoihdkgaa", sum := "f800613caa20ce282b4de4ebb61e201ce6bb77109f4b133ba7005d778f5364ba", func := "loop.example/g00016/laws.FnExactGoodSound", spec := "fnExactGoodSound", apart := false, narrowed := true }
def FnExactGoodSoundUptoSaid : Prop := fnExactGoodSoundUptoRow.holds Try.pinned (OpenSpec.upto fnExactGoodSoundSpec)

/-- 'laws.FnExactWaves', WHERE WHAT IT READS IS OF BULK AT MOST 1048576: true; the input reads as it did. -/
def fnExactWavesUptoRow : OpenClaim := { program := "ytocoeodoihdkgaa", sum := "f800613caa20ce282b4de4ebb61e201ce6bb77109f4b133ba7005d778f5364ba", func := "loop.example/g00016/laws.FnExactWaves", spec := "fnExactWaves", apart := false, narrowed := true }
def FnExactWavesUptoSaid : Prop := fnExactWavesUptoRow.holds Try.pinned (OpenSpec.upto fnExactWavesSpec)

/-- 'laws.FnExactPowers', WHERE WHAT IT READS IS OF BULK AT MOST 1048576: true; the input reads as it did. -/
def fnExactPowersUptoRow : OpenClaim := { program := "ytocoeodoihdkgaa", sum := "f800613caa20ce282b4de4ebb61e201ce6bb77109f4b133ba7005d778f5364ba", func := "loop.example/g00016/laws.FnExactPowers", spec := "fnExactPowers", apart := false, narrowed := true }
def FnExactPowersUptoSaid : Prop := fnExactPowersUptoRow.holds Try.pinned (OpenSpec.upto fnExactPowersSpec)

/-- 'laws.FnExactOddsPack', WHERE WHAT IT READS IS OF BULK AT MOST 1048576: true; the input reads as it did. -/
def fnExactOddsPackUptoRow : OpenClaim := { program := "ytocoeodoihdkgaa", sum := "f800613caa20ce282b4de4ebb61e201ce6bb77109f4b133ba7005d778f5364ba", func := "loop.example/g00016/laws.FnExactOddsPack", spec := "fnExactOddsPack", apart := false, narrowed := true }
def FnExactOddsPackUptoSaid : Prop := fnExactOddsPackUptoRow.holds Try.pinned (OpenSpec.upto fnExactOddsPackSpec)

/-- 'laws.FnExactOddsUnpack', WHERE WHAT IT READS IS OF BULK AT MOST 1048576: true; the input reads as it did. -/
def fnExactOddsUnpackUptoRow : OpenClaim := { program := "ytocoeodoihdkgaa", sum := "f800613caa20ce282b4de4ebb61e201ce6bb77109f4b133ba7005d778f5364ba", func := "loop.example/g00016/laws.FnExactOddsUnpack", spec := "fnExactOddsUnpack", apart := false, narrowed := true }
def FnExactOddsUnpackUptoSaid : Prop := fnExactOddsUnpackUptoRow.holds Try.pinned (OpenSpec.upto fnExactOddsUnpackSpec)

/-- 'laws.FnExactOddsCost', WHERE WHAT IT READS IS OF BULK AT MOST 1048576: true; the input reads as it did. -/
def fnExactOddsCostUptoRow : OpenClaim := { program := "ytocoeodoihdkgaa", sum := "f800613caa20ce282b4de4ebb61e201ce6bb77109f4b133ba7005d778f5364ba", func := "loop.example/g00016/laws.FnExactOddsCost", spec := "fnExactOddsCost", apart := false, narrowed := true }
def FnExactOddsCostUptoSaid : Prop := fnExactOddsCostUptoRow.holds Try.pinned (OpenSpec.upto fnExactOddsCostSpec)

/-- 'laws.FnExactMarks', WHERE WHAT IT READS IS OF BULK AT MOST 1048576: true; the input reads as it did. -/
def fnExactMarksUptoRow : OpenClaim := { program := "ytocoeodoihdkgaa", sum := "f800613caa20ce282b4de4ebb61e201ce6bb77109f4b133ba7005d778f5364ba", func := "loop.example/g00016/laws.FnExactMarks", spec := "fnExactMarks", apart := false, narrowed := true }
def FnExactMarksUptoSaid : Prop := fnExactMarksUptoRow.holds Try.pinned (OpenSpec.upto fnExactMarksSpec)

end Rows
end Go.Proofs.Ytocoeodoihdkgaa
