/-
  NARROWER THAN 'FOR EVERY INPUT', by the rows' own cells (each row's printed sentence says how): FnExactLogicOf: loops · FnExactNotVector: loops · FnExactArithmeticOf: loops · FnExactSumOf: loops · FnExactProductOf: loops · FnExactMeanOf: loops · FnExactVarianceOf: loops · FnExactCumulativeOf: loops · FnExactAllOf: loops · FnExactExtremeOf: loops · FnExactRepeatVector: loops.
  DERIVED. THE GIVEN ROWS OF THIS SEAT. 11 by the template 'for every input the law returns true; each argument reads behind the call as it read before'; 0 by the template 'total and deterministic' (their statements: YtlnjjjoeblopeaaTotals.lean).
  GIVEN WITH THE SEED: the statements are not yours to turn. If you find one false, say at which input.
  Laid BY PROGRAM, IN A SANDBOX (cutbox-rows.mjs): the forced cells as the released guide's own fill.sh prints them over the translation 01113af29515cc6a… (all of the seat's roots in one cut). By AI agents, Wed Nov 11 2026. No macro, syntax, notation, axiom, sorry.
-/
import Derived.Test.YtlnjjjoeblopeaaChecked
import GoSem.Claim
import GoSem.ClaimJoined
import GoSem.ClaimMapViews
import Derived.JoinedTies
import Derived.KernelRfl
namespace Go.Proofs.Ytlnjjjoeblopeaa
/- THE CELL 'sum', in the pinned program and in every row, IS THE sha256 OF THE DUMP (.gsa) THAT YtlnjjjoeblopeaaProg.lean LOADS. Nothing in Lean hashes anything: it is a label: what it is worth is what the hold of that sum in a sandbox is worth. -/
noncomputable def Try.pinned : Pinned := { name := "ytlnjjjoeblopeaa", sum := "01113af29515cc6af48091f034f9a04085c8220cc03468afda7e1982fd325e76", checked := Try.checked }
namespace Rows
def none {H : Type} : Left H := { results := [], args := [] }

/-- 'laws.FnExactLogicOf': WHATEVER THE INPUT: true; the input reads as it did. -/
def fnExactLogicOfSpec : ChangeSpec := { name := "fnExactLogicOf", fn := fun _ => fun
  | [d1, d2, d3] => { results := [.lit (.bool true)], args := [d1, d2, d3] }
  | _ => none }
def fnExactLogicOfRow : OpenClaim := { program := "ytlnjjjoeblopeaa", sum := "01113af29515cc6af48091f034f9a04085c8220cc03468afda7e1982fd325e76", func := "loop.example/g03406/laws.FnExactLogicOf", spec := "fnExactLogicOf", unfollowed := true, recurses := true, loops := true, apart := false }
def FnExactLogicOfSaid : Prop := fnExactLogicOfRow.holds Try.pinned (OpenSpec.ofChange fnExactLogicOfSpec)

/-- ITS FALSE NEIGHBOUR: 'it returns false'. Refute it at one input. -/
def fnExactLogicOfWrong : ChangeSpec := { name := "fnExactLogicOf", fn := fun _ => fun
  | [d1, d2, d3] => { results := [.lit (.bool false)], args := [d1, d2, d3] }
  | _ => none }
def FnExactLogicOfWrongFalsely : Prop := fnExactLogicOfRow.holds Try.pinned (OpenSpec.ofChange fnExactLogicOfWrong)

/-- 'laws.FnExactNotVector': WHATEVER THE INPUT: true; the input reads as it did. -/
def fnExactNotVectorSpec : ChangeSpec := { name := "fnExactNotVector", fn := fun _ => fun
  | [d] => { results := [.lit (.bool true)], args := [d] }
  | _ => none }
def fnExactNotVectorRow : OpenClaim := { program := "ytlnjjjoeblopeaa", sum := "01113af29515cc6af48091f034f9a04085c8220cc03468afda7e1982fd325e76", func := "loop.example/g03406/laws.FnExactNotVector", spec := "fnExactNotVector", unfollowed := true, recurses := true, loops := true, apart := false }
def FnExactNotVectorSaid : Prop := fnExactNotVectorRow.holds Try.pinned (OpenSpec.ofChange fnExactNotVectorSpec)

/-- ITS FALSE NEIGHBOUR: 'it returns false'. Refute it at one input. -/
def fnExactNotVectorWrong : ChangeSpec := { name := "fnExactNotVector", fn := fun _ => fun
  | [d] => { results := [.lit (.bool false)], args := [d] }
  | _ => none }
def FnExactNotVectorWrongFalsely : Prop := fnExactNotVectorRow.holds Try.pinned (OpenSpec.ofChange fnExactNotVectorWrong)

/-- 'laws.FnExactArithmeticOf': WHATEVER THE INPUT: true; the input reads as it did. -/
def fnExactArithmeticOfSpec : ChangeSpec := { name := "fnExactArithmeticOf", fn := fun _ => fun
  | [d1, d2, d3] => { results := [.lit (.bool true)], args := [d1, d2, d3] }
  | _ => none }
def fnExactArithmeticOfRow : OpenClaim := { program := "ytlnjjjoeblopeaa", sum := "01113af29515cc6af48091f034f9a04085c8220cc03468afda7e1982fd325e76", func := "loop.example/g03406/laws.FnExactArithmeticOf", spec := "fnExactArithmeticOf", unfollowed := true, recurses := true, loops := true, apart := false }
def FnExactArithmeticOfSaid : Prop := fnExactArithmeticOfRow.holds Try.pinned (OpenSpec.ofChange fnExactArithmeticOfSpec)

/-- ITS FALSE NEIGHBOUR: 'it returns false'. Refute it at one input. -/
def fnExactArithmeticOfWrong : ChangeSpec := { name := "fnExactArithmeticOf", fn := fun _ => fun
  | [d1, d2, d3] => { results := [.lit (.bool false)], args := [d1, d2, d3] }
  | _ => none }
def FnExactArithmeticOfWrongFalsely : Prop := fnExactArithmeticOfRow.holds Try.pinned (OpenSpec.ofChange fnExactArithmeticOfWrong)

/-- 'laws.FnExactSumOf': WHATEVER THE INPUT: true; the input reads as it did. -/
def fnExactSumOfSpec : ChangeSpec := { name := "fnExactSumOf", fn := fun _ => fun
  | [d1, d2] => { results := [.lit (.bool true)], args := [d1, d2] }
  | _ => none }
def fnExactSumOfRow : OpenClaim := { program := "ytlnjjjoeblopeaa", sum := "01113af29515cc6af48091f034f9a04085c8220cc03468afda7e1982fd325e76", func := "loop.example/g03406/laws.FnExactSumOf", spec := "fnExactSumOf", unfollowed := true, recurses := true, loops := true, apart := false }
def FnExactSumOfSaid : Prop := fnExactSumOfRow.holds Try.pinned (OpenSpec.ofChange fnExactSumOfSpec)

/-- ITS FALSE NEIGHBOUR: 'it returns false'. Refute it at one input. -/
def fnExactSumOfWrong : ChangeSpec := { name := "fnExactSumOf", fn := fun _ => fun
  | [d1, d2] => { results := [.lit (.bool false)], args := [d1, d2] }
  | _ => none }
def FnExactSumOfWrongFalsely : Prop := fnExactSumOfRow.holds Try.pinned (OpenSpec.ofChange fnExactSumOfWrong)

/-- 'laws.FnExactProductOf': WHATEVER THE INPUT: true; the input reads as it did. -/
def fnExactProductOfSpec : ChangeSpec := { name := "fnExactProductOf", fn := fun _ => fun
  | [d1, d2] => { results := [.lit (.bool true)], args := [d1, d2] }
  | _ => none }
def fnExactProductOfRow : OpenClaim := { program := "ytlnjjjoeblopeaa", sum := "01113af29515cc6af48091f034f9a04085c8220cc03468afda7e1982fd325e76", func := "loop.example/g03406/laws.FnExactProductOf", spec := "fnExactProductOf", unfollowed := true, recurses := true, loops := true, apart := false }
def FnExactProductOfSaid : Prop := fnExactProductOfRow.holds Try.pinned (OpenSpec.ofChange fnExactProductOfSpec)

/-- ITS FALSE NEIGHBOUR: 'it returns false'. Refute it at one input. -/
def fnExactProductOfWrong : ChangeSpec := { name := "fnExactProductOf", fn := fun _ => fun
  | [d1, d2] => { results := [.lit (.bool false)], args := [d1, d2] }
  | _ => none }
def FnExactProductOfWrongFalsely : Prop := fnExactProductOfRow.holds Try.pinned (OpenSpec.ofChange fnExactProductOfWrong)

/-- 'laws.FnExactMeanOf': WHATEVER THE INPUT: true; the input reads as it did. -/
def fnExactMeanOfSpec : ChangeSpec := { name := "fnExactMeanOf", fn := fun _ => fun
  | [d1, d2] => { results := [.lit (.bool true)], args := [d1, d2] }
  | _ => none }
def fnExactMeanOfRow : OpenClaim := { program := "ytlnjjjoeblopeaa", sum := "01113af29515cc6af48091f034f9a04085c8220cc03468afda7e1982fd325e76", func := "loop.example/g03406/laws.FnExactMeanOf", spec := "fnExactMeanOf", unfollowed := true, recurses := true, loops := true, apart := false }
def FnExactMeanOfSaid : Prop := fnExactMeanOfRow.holds Try.pinned (OpenSpec.ofChange fnExactMeanOfSpec)

/-- ITS FALSE NEIGHBOUR: 'it returns false'. Refute it at one input. -/
def fnExactMeanOfWrong : ChangeSpec := { name := "fnExactMeanOf", fn := fun _ => fun
  | [d1, d2] => { results := [.lit (.bool false)], args := [d1, d2] }
  | _ => none }
def FnExactMeanOfWrongFalsely : Prop := fnExactMeanOfRow.holds Try.pinned (OpenSpec.ofChange fnExactMeanOfWrong)

/-- 'laws.FnExactVarianceOf': WHATEVER THE INPUT: true; the input reads as it did. -/
def fnExactVarianceOfSpec : ChangeSpec := { name := "fnExactVarianceOf", fn := fun _ => fun
  | [d1, d2] => { results := [.lit (.bool true)], args := [d1, d2] }
  | _ => none }
def fnExactVarianceOfRow : OpenClaim := { program := "ytlnjjjoeblopeaa", sum := "01113af29515cc6af48091f034f9a04085c8220cc03468afda7e1982fd325e76", func := "loop.example/g03406/laws.FnExactVarianceOf", spec := "fnExactVarianceOf", unfollowed := true, recurses := true, loops := true, apart := false }
def FnExactVarianceOfSaid : Prop := fnExactVarianceOfRow.holds Try.pinned (OpenSpec.ofChange fnExactVarianceOfSpec)

/-- ITS FALSE NEIGHBOUR: 'it returns false'. Refute it at one input. -/
def fnExactVarianceOfWrong : ChangeSpec := { name := "fnExactVarianceOf", fn := fun _ => fun
  | [d1, d2] => { results := [.lit (.bool false)], args := [d1, d2] }
  | _ => none }
def FnExactVarianceOfWrongFalsely : Prop := fnExactVarianceOfRow.holds Try.pinned (OpenSpec.ofChange fnExactVarianceOfWrong)

/-- 'laws.FnExactCumulativeOf': WHATEVER THE INPUT: true; the input reads as it did. -/
def fnExactCumulativeOfSpec : ChangeSpec := { name := "fnExactCumulativeOf", fn := fun _ => fun
  | [d] => { results := [.lit (.bool true)], args := [d] }
  | _ => none }
def fnExactCumulativeOfRow : OpenClaim := { program := "ytlnjjjoeblopeaa", sum := "01113af29515cc6af48091f034f9a04085c8220cc03468afda7e1982fd325e76", func := "loop.example/g03406/laws.FnExactCumulativeOf", spec := "fnExactCumulativeOf", unfollowed := true, recurses := true, loops := true, apart := false }
def FnExactCumulativeOfSaid : Prop := fnExactCumulativeOfRow.holds Try.pinned (OpenSpec.ofChange fnExactCumulativeOfSpec)

/-- ITS FALSE NEIGHBOUR: 'it returns false'. Refute it at one input. -/
def fnExactCumulativeOfWrong : ChangeSpec := { name := "fnExactCumulativeOf", fn := fun _ => fun
  | [d] => { results := [.lit (.bool false)], args := [d] }
  | _ => none }
def FnExactCumulativeOfWrongFalsely : Prop := fnExactCumulativeOfRow.holds Try.pinned (OpenSpec.ofChange fnExactCumulativeOfWrong)

/-- 'laws.FnExactAllOf': WHATEVER THE INPUT: true; the input reads as it did. -/
def fnExactAllOfSpec : ChangeSpec := { name := "fnExactAllOf", fn := fun _ => fun
  | [d1, d2, d3] => { results := [.lit (.bool true)], args := [d1, d2, d3] }
  | _ => none }
def fnExactAllOfRow : OpenClaim := { program := "ytlnjjjoeblopeaa", sum := "01113af29515cc6af48091f034f9a04085c8220cc03468afda7e1982fd325e76", func := "loop.example/g03406/laws.FnExactAllOf", spec := "fnExactAllOf", unfollowed := true, recurses := true, loops := true, apart := false }
def FnExactAllOfSaid : Prop := fnExactAllOfRow.holds Try.pinned (OpenSpec.ofChange fnExactAllOfSpec)

/-- ITS FALSE NEIGHBOUR: 'it returns false'. Refute it at one input. -/
def fnExactAllOfWrong : ChangeSpec := { name := "fnExactAllOf", fn := fun _ => fun
  | [d1, d2, d3] => { results := [.lit (.bool false)], args := [d1, d2, d3] }
  | _ => none }
def FnExactAllOfWrongFalsely : Prop := fnExactAllOfRow.holds Try.pinned (OpenSpec.ofChange fnExactAllOfWrong)

/-- 'laws.FnExactExtremeOf': WHATEVER THE INPUT: true; the input reads as it did. -/
def fnExactExtremeOfSpec : ChangeSpec := { name := "fnExactExtremeOf", fn := fun _ => fun
  | [d1, d2, d3] => { results := [.lit (.bool true)], args := [d1, d2, d3] }
  | _ => none }
def fnExactExtremeOfRow : OpenClaim := { program := "ytlnjjjoeblopeaa", sum := "01113af29515cc6af48091f034f9a04085c8220cc03468afda7e1982fd325e76", func := "loop.example/g03406/laws.FnExactExtremeOf", spec := "fnExactExtremeOf", unfollowed := true, recurses := true, loops := true, apart := false }
def FnExactExtremeOfSaid : Prop := fnExactExtremeOfRow.holds Try.pinned (OpenSpec.ofChange fnExactExtremeOfSpec)

/-- ITS FALSE NEIGHBOUR: 'it returns false'. Refute it at one input. -/
def fnExactExtremeOfWrong : ChangeSpec := { name := "fnExactExtremeOf", fn := fun _ => fun
  | [d1, d2, d3] => { results := [.lit (.bool false)], args := [d1, d2, d3] }
  | _ => none }
def FnExactExtremeOfWrongFalsely : Prop := fnExactExtremeOfRow.holds Try.pinned (OpenSpec.ofChange fnExactExtremeOfWrong)

/-- 'laws.FnExactRepeatVector': WHATEVER THE INPUT: true; the input reads as it did. -/
def fnExactRepeatVectorSpec : ChangeSpec := { name := "fnExactRepeatVector", fn := fun _ => fun
  | [d1, d2] => { results := [.lit (.bool true)], args := [d1, d2] }
  | _ => none }
def fnExactRepeatVectorRow : OpenClaim := { program := "ytlnjjjoeblopeaa", sum := "01113af29515cc6af48091f034f9a04085c8220cc03468afda7e1982fd325e76", func := "loop.example/g03406/laws.FnExactRepeatVector", spec := "fnExactRepeatVector", unfollowed := true, recurses := true, loops := true, apart := false }
def FnExactRepeatVectorSaid : Prop := fnExactRepeatVectorRow.holds Try.pinned (OpenSpec.ofChange fnExactRepeatVectorSpec)

/-- ITS FALSE NEIGHBOUR: 'it returns false'. Refute it at one input. -/
def fnExactRepeatVectorWrong : ChangeSpec := { name := "fnExactRepeatVector", fn := fun _ => fun
  | [d1, d2] => { results := [.lit (.bool false)], args := [d1, d2] }
  | _ => none }
def FnExactRepeatVectorWrongFalsely : Prop := fnExactRepeatVectorRow.holds Try.pinned (OpenSpec.ofChange fnExactRepeatVectorWrong)

/- THE SECOND FORM. 'bulk': how many values and letters a reading holds, each counted each time it is reached (what is shared counts as often as it is met; a slice's spare places count too). A statement '..UptoSaid' is the law's where the arguments, and the package variables that the reading takes, are together of bulk at most 1048576: NARROWER than '..Said'. Prove '..Said' where nothing that the law and all that it calls make is longer than what came in: it says more and counts as full. Else prove '..UptoSaid'. A law counts once. -/
mutual
def uptoBulk {H : Type} : DataW H → Nat
  | .lit (.string bytes) => bytes.length + 1
  | .lit _ => 1
  | .nil => 1
  | .ptr d => uptoBulk d + 1
  | .slice elems spare => uptoBulkAll elems + uptoBulkAll spare + 1
  | .agg parts => uptoBulkAll parts + 1
  | .iface _ d => uptoBulk d + 1
  | .map entries => uptoBulkEntries entries + 1
  | .held _ => 1
def uptoBulkAll {H : Type} : List (DataW H) → Nat
  | [] => 0
  | d :: r => uptoBulk d + uptoBulkAll r
def uptoBulkEntries {H : Type} : List (Lit × DataW H) → Nat
  | [] => 0
  | x :: r => uptoBulkEntry x + uptoBulkEntries r
def uptoBulkEntry {H : Type} : Lit × DataW H → Nat
  | (.string bytes, d) => bytes.length + uptoBulk d + 1
  | (_, d) => uptoBulk d + 1
 end
def uptoSmall : (H : Type) → List (DataW H) → Bool := fun _ ds => decide (uptoBulkAll ds ≤ 1048576)
def OpenSpec.upto (s : _root_.Go.ChangeSpec) : _root_.Go.OpenSpec := { _root_.Go.OpenSpec.ofChange s with cond := some uptoSmall }

/-- 'laws.FnExactLogicOf', WHERE WHAT IT READS IS OF BULK AT MOST 1048576: true; the input reads as it did. -/
def fnExactLogicOfUptoRow : OpenClaim := { program := "ytlnjjjoeblopeaa", sum := "01113af29515cc6af48091f034f9a04085c8220cc03468afda7e1982fd325e76", func := "loop.example/g03406/laws.FnExactLogicOf", spec := "fnExactLogicOf", unfollowed := true, recurses := true, loops := true, apart := false, narrowed := true }
def FnExactLogicOfUptoSaid : Prop := fnExactLogicOfUptoRow.holds Try.pinned (OpenSpec.upto fnExactLogicOfSpec)

/-- 'laws.FnExactNotVector', WHERE WHAT IT READS IS OF BULK AT MOST 1048576: true; the input reads as it did. -/
def fnExactNotVectorUptoRow : OpenClaim := { program := "ytlnjjjoeblopeaa", sum := "01113af29515cc6af48091f034f9a04085c8220cc03468afda7e1982fd325e76", func := "loop.example/g03406/laws.FnExactNotVector", spec := "fnExactNotVector", unfollowed := true, recurses := true, loops := true, apart := false, narrowed := true }
def FnExactNotVectorUptoSaid : Prop := fnExactNotVectorUptoRow.holds Try.pinned (OpenSpec.upto fnExactNotVectorSpec)

/-- 'laws.FnExactArithmeticOf', WHERE WHAT IT READS IS OF BULK AT MOST 1048576: true; the input reads as it did. -/
def fnExactArithmeticOfUptoRow : OpenClaim := { program := "ytlnjjjoeblopeaa", sum := "01113af29515cc6af48091f034f9a04085c8220cc03468afda7e1982fd325e76", func := "loop.example/g03406/laws.FnExactArithmeticOf", spec := "fnExactArithmeticOf", unfollowed := true, recurses := true, loops := true, apart := false, narrowed := true }
def FnExactArithmeticOfUptoSaid : Prop := fnExactArithmeticOfUptoRow.holds Try.pinned (OpenSpec.upto fnExactArithmeticOfSpec)

/-- 'laws.FnExactSumOf', WHERE WHAT IT READS IS OF BULK AT MOST 1048576: true; the input reads as it did. -/
def fnExactSumOfUptoRow : OpenClaim := { program := "ytlnjjjoeblopeaa", sum := "01113af29515cc6af48091f034f9a04085c8220cc03468afda7e1982fd325e76", func := "loop.example/g03406/laws.FnExactSumOf", spec := "fnExactSumOf", unfollowed := true, recurses := true, loops := true, apart := false, narrowed := true }
def FnExactSumOfUptoSaid : Prop := fnExactSumOfUptoRow.holds Try.pinned (OpenSpec.upto fnExactSumOfSpec)

/-- 'laws.FnExactProductOf', WHERE WHAT IT READS IS OF BULK AT MOST 1048576: true; the input reads as it did. -/
def fnExactProductOfUptoRow : OpenClaim := { program := "ytlnjjjoeblopeaa", sum := "01113af29515cc6af48091f034f9a04085c8220cc03468afda7e1982fd325e76", func := "loop.example/g03406/laws.FnExactProductOf", spec := "fnExactProductOf", unfollowed := true, recurses := true, loops := true, apart := false, narrowed := true }
def FnExactProductOfUptoSaid : Prop := fnExactProductOfUptoRow.holds Try.pinned (OpenSpec.upto fnExactProductOfSpec)

/-- 'laws.FnExactMeanOf', WHERE WHAT IT READS IS OF BULK AT MOST 1048576: true; the input reads as it did. -/
def fnExactMeanOfUptoRow : OpenClaim := { program := "ytlnjjjoeblopeaa", sum := "01113af29515cc6af48091f034f9a04085c8220cc03468afda7e1982fd325e76", func := "loop.example/g03406/laws.FnExactMeanOf", spec := "fnExactMeanOf", unfollowed := true, recurses := true, loops := true, apart := false, narrowed := true }
def FnExactMeanOfUptoSaid : Prop := fnExactMeanOfUptoRow.holds Try.pinned (OpenSpec.upto fnExactMeanOfSpec)

/-- 'laws.FnExactVarianceOf', WHERE WHAT IT READS IS OF BULK AT MOST 1048576: true; the input reads as it did. -/
def fnExactVarianceOfUptoRow : OpenClaim := { program := "ytlnjjjoeblopeaa", sum := "01113af29515cc6af48091f034f9a04085c8220cc03468afda7e1982fd325e76", func := "loop.example/g03406/laws.FnExactVarianceOf", spec := "fnExactVarianceOf", unfollowed := true, recurses := true, loops := true, apart := false, narrowed := true }
def FnExactVarianceOfUptoSaid : Prop := fnExactVarianceOfUptoRow.holds Try.pinned (OpenSpec.upto fnExactVarianceOfSpec)

/-- 'laws.FnExactCumulativeOf', WHERE WHAT IT READS IS OF BULK AT MOST 1048576: true; the input reads as it did. -/
def fnExactCumulativeOfUptoRow : OpenClaim := { program := "ytlnjjjoeblopeaa", sum := "01113af29515cc6af48091f034f9a04085c8220cc03468afda7e1982fd325e76", func := "loop.example/g03406/laws.FnExactCumulativeOf", spec := "fnExactCumulativeOf", unfollowed := true, recurses := true, loops := true, apart := false, narrowed := true }
def FnExactCumulativeOfUptoSaid : Prop := fnExactCumulativeOfUptoRow.holds Try.pinned (OpenSpec.upto fnExactCumulativeOfSpec)

/-- 'laws.FnExactAllOf', WHERE WHAT IT READS IS OF BULK AT MOST 1048576: true; the input reads as it did. -/
def fnExactAllOfUptoRow : OpenClaim := { program := "ytlnjjjoeblopeaa", sum := "01113af29515cc6af48091f034f9a04085c8220cc03468afda7e1982fd325e76", func := "loop.example/g03406/laws.FnExactAllOf", spec := "fnExactAllOf", unfollowed := true, recurses := true, loops := true, apart := false, narrowed := true }
def FnExactAllOfUptoSaid : Prop := fnExactAllOfUptoRow.holds Try.pinned (OpenSpec.upto fnExactAllOfSpec)

/-- 'laws.FnExactExtremeOf', WHERE WHAT IT READS IS OF BULK AT MOST 1048576: true; the input reads as it did. -/
def fnExactExtremeOfUptoRow : OpenClaim := { program := "ytlnjjjoeblopeaa", sum := "01113af29515cc6af48091f034f9a04085c8220cc03468afda7e1982fd325e76", func := "loop.example/g03406/laws.FnExactExtremeOf", spec := "fnExactExtremeOf", unfollowed := true, recurses := true, loops := true, apart := false, narrowed := true }
def FnExactExtremeOfUptoSaid : Prop := fnExactExtremeOfUptoRow.holds Try.pinned (OpenSpec.upto fnExactExtremeOfSpec)

/-- 'laws.FnExactRepeatVector', WHERE WHAT IT READS IS OF BULK AT MOST 1048576: true; the input reads as it did. -/
def fnExactRepeatVectorUptoRow : OpenClaim := { program := "ytlnjjjoeblopeaa", sum := "01113af29515cc6af48091f034f9a04085c8220cc03468afda7e1982fd325e76", func := "loop.example/g03406/laws.FnExactRepeatVector", spec := "fnExactRepeatVector", unfollowed := true, recurses := true, loops := true, apart := false, narrowed := true }
def FnExactRepeatVectorUptoSaid : Prop := fnExactRepeatVectorUptoRow.holds Try.pinned (OpenSpec.upto fnExactRepeatVectorSpec)

end Rows
end Go.Proofs.Ytlnjjjoeblopeaa
