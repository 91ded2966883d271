/-
  No cell of these rows narrows 'for every input' (looked for: loops, veiled, ifaces, maps, wideKeys, modest, calm, conditions, laid).
  DERIVED. THE GIVEN ROWS OF THIS SEAT. 7 by the template 'for every input the law returns true; each argument reads behind the call as it read before'; 0 by the template 'total and deterministic' (their statements: YtnoojbppfbmbgaaTotals.lean).
  GIVEN WITH THE SEED: the statements are not yours to turn. If you find one false, say at which input.
  Laid BY PROGRAM, IN A SANDBOX (cutbox-rows.mjs): the forced cells as the released guide's own fill.sh prints them over the translation ef20e146501e6666… (all of the seat's roots in one cut). By AI agents, Wed Nov 11 2026. No macro, syntax, notation, axiom, sorry.
-/
import Derived.Test.YtnoojbppfbmbgaaChecked
import GoSem.Claim
import GoSem.ClaimJoined
import GoSem.ClaimMapViews
import Derived.JoinedTies
import Derived.KernelRfl
namespace Go.Proofs.Ytnoojbppfbmbgaa
/- THE CELL 'sum', in the pinned program and in every row, IS THE sha256 OF THE DUMP (.gsa) THAT YtnoojbppfbmbgaaProg.lean LOADS. Nothing in Lean hashes anything: it is a label: what it is worth is what the hold of that sum in a sandbox is worth. -/
noncomputable def Try.pinned : Pinned := { name := "ytnoojbppfbmbgaa", sum := "ef20e146501e666668d5163b6a8c49b20e59bbee83dae399561b722785d61a52", checked := Try.checked }
namespace Rows
def none {H : Type} : Left H := { results := [], args := [] }

/-- 'laws.FnWaves': WHATEVER THE INPUT: true; the input reads as it did. -/
def fnWavesSpec : ChangeSpec := { name := "fnWaves", fn := fun _ => fun
  | [d1, d2] => { results := [.lit (.bool true)], args := [d1, d2] }
  | _ => none }
def fnWavesRow : OpenClaim := { program := "ytnoojbppfbmbgaa", sum := "ef20e146501e666668d5163b6a8c49b20e59bbee83dae399561b722785d61a52", func := "loop.example/g00016/laws.FnWaves", spec := "fnWaves", apart := false }
def FnWavesSaid : Prop := fnWavesRow.holds Try.pinned (OpenSpec.ofChange fnWavesSpec)

/-- ITS FALSE NEIGHBOUR: 'it returns false'. Refute it at one input. -/
def fnWavesWrong : ChangeSpec := { name := "fnWaves", fn := fun _ => fun
  | [d1, d2] => { results := [.lit (.bool false)], args := [d1, d2] }
  | _ => none }
def FnWavesWrongFalsely : Prop := fnWavesRow.holds Try.pinned (OpenSpec.ofChange fnWavesWrong)

/-- 'laws.FnExactWaves': WHATEVER THE INPUT: true; the input reads as it did. -/
def fnExactWavesSpec : ChangeSpec := { name := "fnExactWaves", fn := fun _ => fun
  | [d] => { results := [.lit (.bool true)], args := [d] }
  | _ => none }
def fnExactWavesRow : OpenClaim := { program := "ytnoojbppfbmbgaa", sum := "ef20e146501e666668d5163b6a8c49b20e59bbee83dae399561b722785d61a52", func := "loop.example/g00016/laws.FnExactWaves", spec := "fnExactWaves", apart := false }
def FnExactWavesSaid : Prop := fnExactWavesRow.holds Try.pinned (OpenSpec.ofChange fnExactWavesSpec)

/-- ITS FALSE NEIGHBOUR: 'it returns false'. Refute it at one input. -/
def fnExactWavesWrong : ChangeSpec := { name := "fnExactWaves", fn := fun _ => fun
  | [d] => { results := [.lit (.bool false)], args := [d] }
  | _ => none }
def FnExactWavesWrongFalsely : Prop := fnExactWavesRow.holds Try.pinned (OpenSpec.ofChange fnExactWavesWrong)

/-- 'laws.FnExactPowers': WHATEVER THE INPUT: true; the input reads as it did. -/
def fnExactPowersSpec : ChangeSpec := { name := "fnExactPowers", fn := fun _ => fun
  | [d] => { results := [.lit (.bool true)], args := [d] }
  | _ => none }
def fnExactPowersRow : OpenClaim := { program := "ytnoojbppfbmbgaa", sum := "ef20e146501e666668d5163b6a8c49b20e59bbee83dae399561b722785d61a52", func := "loop.example/g00016/laws.FnExactPowers", spec := "fnExactPowers", apart := false }
def FnExactPowersSaid : Prop := fnExactPowersRow.holds Try.pinned (OpenSpec.ofChange fnExactPowersSpec)

/-- ITS FALSE NEIGHBOUR: 'it returns false'. Refute it at one input. -/
def fnExactPowersWrong : ChangeSpec := { name := "fnExactPowers", fn := fun _ => fun
  | [d] => { results := [.lit (.bool false)], args := [d] }
  | _ => none }
def FnExactPowersWrongFalsely : Prop := fnExactPowersRow.holds Try.pinned (OpenSpec.ofChange fnExactPowersWrong)

/-- 'laws.FnExactGrade': WHATEVER THE INPUT: true; the input reads as it did. -/
def fnExactGradeSpec : ChangeSpec := { name := "fnExactGrade", fn := fun _ => fun
  | [d1, d2] => { results := [.lit (.bool true)], args := [d1, d2] }
  | _ => none }
def fnExactGradeRow : OpenClaim := { program := "ytnoojbppfbmbgaa", sum := "ef20e146501e666668d5163b6a8c49b20e59bbee83dae399561b722785d61a52", func := "loop.example/g00016/laws.FnExactGrade", spec := "fnExactGrade", apart := false }
def FnExactGradeSaid : Prop := fnExactGradeRow.holds Try.pinned (OpenSpec.ofChange fnExactGradeSpec)

/-- ITS FALSE NEIGHBOUR: 'it returns false'. Refute it at one input. -/
def fnExactGradeWrong : ChangeSpec := { name := "fnExactGrade", fn := fun _ => fun
  | [d1, d2] => { results := [.lit (.bool false)], args := [d1, d2] }
  | _ => none }
def FnExactGradeWrongFalsely : Prop := fnExactGradeRow.holds Try.pinned (OpenSpec.ofChange fnExactGradeWrong)

/-- 'laws.FnExactGoodTones': WHATEVER THE INPUT: true; the input reads as it did. -/
def fnExactGoodTonesSpec : ChangeSpec := { name := "fnExactGoodTones", fn := fun _ => fun
  | [d] => { results := [.lit (.bool true)], args := [d] }
  | _ => none }
def fnExactGoodTonesRow : OpenClaim := { program := "ytnoojbppfbmbgaa", sum := "ef20e146501e666668d5163b6a8c49b20e59bbee83dae399561b722785d61a52", func := "loop.example/g00016/laws.FnExactGoodTones", spec := "fnExactGoodTones", apart := false }
def FnExactGoodTonesSaid : Prop := fnExactGoodTonesRow.holds Try.pinned (OpenSpec.ofChange fnExactGoodTonesSpec)

/-- ITS FALSE NEIGHBOUR: 'it returns false'. Refute it at one input. -/
def fnExactGoodTonesWrong : ChangeSpec := { name := "fnExactGoodTones", fn := fun _ => fun
  | [d] => { results := [.lit (.bool false)], args := [d] }
  | _ => none }
def FnExactGoodTonesWrongFalsely : Prop := fnExactGoodTonesRow.holds Try.pinned (OpenSpec.ofChange fnExactGoodTonesWrong)

/-- 'laws.FnExactEncodeTones': WHATEVER THE INPUT: true; the input reads as it did. -/
def fnExactEncodeTonesSpec : ChangeSpec := { name := "fnExactEncodeTones", fn := fun _ => fun
  | [d] => { results := [.lit (.bool true)], args := [d] }
  | _ => none }
def fnExactEncodeTonesRow : OpenClaim := { program := "ytnoojbppfbmbgaa", sum := "ef20e146501e666668d5163b6a8c49b20e59bbee83dae399561b722785d61a52", func := "loop.example/g00016/laws.FnExactEncodeTones", spec := "fnExactEncodeTones", apart := false }
def FnExactEncodeTonesSaid : Prop := fnExactEncodeTonesRow.holds Try.pinned (OpenSpec.ofChange fnExactEncodeTonesSpec)

/-- ITS FALSE NEIGHBOUR: 'it returns false'. Refute it at one input. -/
def fnExactEncodeTonesWrong : ChangeSpec := { name := "fnExactEncodeTones", fn := fun _ => fun
  | [d] => { results := [.lit (.bool false)], args := [d] }
  | _ => none }
def FnExactEncodeTonesWrongFalsely : Prop := fnExactEncodeTonesRow.holds Try.pinned (OpenSpec.ofChange fnExactEncodeTonesWrong)

/-- 'laws.FnExactDecodeTones': WHATEVER THE INPUT: true; the input reads as it did. -/
def fnExactDecodeTonesSpec : ChangeSpec := { name := "fnExactDecodeTones", fn := fun _ => fun
  | [d] => { results := [.lit (.bool true)], args := [d] }
  | _ => none }
def fnExactDecodeTonesRow : OpenClaim := { program := "ytnoojbppfbmbgaa", sum := "ef20e146501e666668d5163b6a8c49b20e59bbee83dae399561b722785d61a52", func := "loop.example/g00016/laws.FnExactDecodeTones", spec := "fnExactDecodeTones", apart := false }
def FnExactDecodeTonesSaid : Prop := fnExactDecodeTonesRow.holds Try.pinned (OpenSpec.ofChange fnExactDecodeTonesSpec)

/-- ITS FALSE NEIGHBOUR: 'it returns false'. Refute it at one input. -/
def fnExactDecodeTonesWrong : ChangeSpec := { name := "fnExactDecodeTones", fn := fun _ => fun
  | [d] => { results := [.lit (.bool false)], args := [d] }
  | _ => none }
def FnExactDecodeTonesWrongFalsely : Prop := fnExactDecodeTonesRow.holds Try.pinned (OpenSpec.ofChange fnExactDecodeTonesWrong)

/- THE SECOND FORM. 'bulk': how many values and letters a reading holds, each counted each time it is reached (what is shared counts as often as it is met; a slice's spare places count too). A statement '..UptoSaid' is the law's where the arguments, and the package variables that the reading takes, are together of bulk at most 1048576: NARROWER than '..Said'. Prove '..Said' where nothing that the law and all that it calls make is longer than what came in: it says more and counts as full. Else prove '..UptoSaid'. A law counts once. -/
mutual
def uptoBulk {H : Type} : DataW H → Nat
  | .lit (.string bytes) => bytes.length + 1
  | .lit _ => 1
  | .nil => 1
  | .ptr d => uptoBulk d + 1
  | .slice elems spare => uptoBulkAll elems + uptoBulkAll spare + 1
  | .agg parts => uptoBulkAll parts + 1
  | .iface _ d => uptoBulk d + 1
  | .map entries => uptoBulkEntries entries + 1
  | .held _ => 1
def uptoBulkAll {H : Type} : List (DataW H) → Nat
  | [] => 0
  | d :: r => uptoBulk d + uptoBulkAll r
def uptoBulkEntries {H : Type} : List (Lit × DataW H) → Nat
  | [] => 0
  | x :: r => uptoBulkEntry x + uptoBulkEntries r
def uptoBulkEntry {H : Type} : Lit × DataW H → Nat
  | (.string bytes, d) => bytes.length + uptoBulk d + 1
  | (_, d) => uptoBulk d + 1
 end
def uptoSmall : (H : Type) → List (DataW H) → Bool := fun _ ds => decide (uptoBulkAll ds ≤ 1048576)
def OpenSpec.upto (s : _root_.Go.ChangeSpec) : _root_.Go.OpenSpec := { _root_.Go.OpenSpec.ofChange s with cond := some uptoSmall }

/-- 'laws.FnWaves', WHERE WHAT IT READS IS OF BULK AT MOST 1048576: true; the input reads as it did. -/
def fnWavesUptoRow : OpenClaim := { program := "ytnoojbppfbmbgaa", sum := "ef20e146501e666668d5163b6a8c49b20e59bbee83dae399561b722785d61a52", func := "loop.example/g00016/laws.FnWaves", spec := "fnWaves", apart := false, narrowed := true }
def FnWavesUptoSaid : Prop := fnWavesUptoRow.holds Try.pinned (OpenSpec.upto fnWavesSpec)

/-- 'laws.FnExactWaves', WHERE WHAT IT READS IS OF BULK AT MOST 1048576: true; the input reads as it did. -/
def fnExactWavesUptoRow : OpenClaim := { program := "ytnoojbppfbmbgaa", sum := "ef20e146501e666668d5163b6a8c49b20e59bbee83dae399561b722785d61a52", func := "loop.example/g00016/laws.FnExactWaves", spec := "fnExactWaves", apart := false, narrowed := true }
def FnExactWavesUptoSaid : Prop := fnExactWavesUptoRow.holds Try.pinned (OpenSpec.upto fnExactWavesSpec)

/-- 'laws.FnExactPowers', WHERE WHAT IT READS IS OF BULK AT MOST 1048576: true; the input reads as it did. -/
def fnExactPowersUptoRow : OpenClaim := { program := "ytnoojbppfbmbgaa", sum := "ef20e146501e666668d5163b6a8c49b20e59bbee83dae399561b722785d61a52", func := "loop.example/g00016/laws.FnExactPowers", spec := "fnExactPowers", apart := false, narrowed := true }
def FnExactPowersUptoSaid : Prop := fnExactPowersUptoRow.holds Try.pinned (OpenSpec.upto fnExactPowersSpec)

/-- 'laws.FnExactGrade', WHERE WHAT IT READS IS OF BULK AT MOST 1048576: true; the input reads as it did. -/
def fnExactGradeUptoRow : OpenClaim := { program := "ytnoojbppfbmbgaa", sum := "ef20e146501e666668d5163b6a8c49b20e59bbee83dae399561b722785d61a52", func := "loop.example/g00016/laws.FnExactGrade", spec := "fnExactGrade", apart := false, narrowed := true }
def FnExactGradeUptoSaid : Prop := fnExactGradeUptoRow.holds Try.pinned (OpenSpec.upto fnExactGradeSpec)

/-- 'laws.FnExactGoodTones', WHERE WHAT IT READS IS OF BULK AT MOST 1048576: true; the input reads as it did. -/
def fnExactGoodTonesUptoRow : OpenClaim := { program := "ytnoojbppfbmbgaa", sum := "ef20e146501e666668d5163b6a8c49b20e59bbee83dae399561b722785d61a52", func := "loop.example/g00016/laws.FnExactGoodTones", spec := "fnExactGoodTones", apart := false, narrowed := true }
def FnExactGoodTonesUptoSaid : Prop := fnExactGoodTonesUptoRow.holds Try.pinned (OpenSpec.upto fnExactGoodTonesSpec)

/-- 'laws.FnExactEncodeTones', WHERE WHAT IT READS IS OF BULK AT MOST 1048576: true; the input reads as it did. -/
def fnExactEncodeTonesUptoRow : OpenClaim := { program := "ytnoojbppfbmbgaa", sum := "ef20e146501e666668d5163b6a8c49b20e59bbee83dae399561b722785d61a52", func := "loop.example/g00016/laws.FnExactEncodeTones", spec := "fnExactEncodeTones", apart := false, narrowed := true }
def FnExactEncodeTonesUptoSaid : Prop := fnExactEncodeTonesUptoRow.holds Try.pinned (OpenSpec.upto fnExactEncodeTonesSpec)

/-- 'laws.FnExactDecodeTones', WHERE WHAT IT READS IS OF BULK AT MOST 1048576: true; the input reads as it did. -/
def fnExactDecodeTonesUptoRow : OpenClaim := { program := "ytnoojbppfbmbgaa", sum := "ef20e146501e666668d5163b6a8c49b20e59bbee83dae399561b722785d61a52", func := "loop.example/g00016/laws.FnExactDecodeTones", spec := "fnExactDecodeTones", apart := false, narrowed := true }
def FnExactDecodeTonesUptoSaid : Prop := fnExactDecodeTonesUptoRow.holds Try.pinned (OpenSpec.upto fnExactDecodeTonesSpec)

end Rows
end Go.Proofs.Ytnoojbppfbmbgaa
