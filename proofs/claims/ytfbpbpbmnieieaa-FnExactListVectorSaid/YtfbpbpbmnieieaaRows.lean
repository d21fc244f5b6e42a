/-
  NARROWER THAN 'FOR EVERY INPUT', by the rows' own cells (each row's printed sentence says how): FnExactRepeatVector: loops · FnExactListVector: loops · FnExactReverseOf: loops · FnExactDuplicatedIn: loops · FnExactUniqueOf: loops · FnExactWhichOf: loops · FnExactRanksOf: loops.
  DERIVED. THE GIVEN ROWS OF THIS SEAT. 7 by the template 'for every input the law returns true; each argument reads behind the call as it read before'; 0 by the template 'total and deterministic' (their statements: YtfbpbpbmnieieaaTotals.lean).
  GIVEN WITH THE SEED: the statements are not yours to turn. If you find one false, say at which input.
  Laid BY PROGRAM, IN A SANDBOX (cutbox-rows.mjs): the forced cells as the released guide's own fill.sh prints them over the translation e3ba4554af9df3aa… (all of the seat's roots in one cut). By AI agents, Wed Nov 11 2026. No macro, syntax, notation, axiom, sorry.
-/
import Derived.Test.YtfbpbpbmnieieaaChecked
import GoSem.Claim
import GoSem.ClaimJoined
import GoSem.ClaimMapViews
import Derived.JoinedTies
import Derived.KernelRfl
namespace Go.Proofs.Ytfbpbpbmnieieaa
/- THE CELL 'sum', in the pinned program and in every row, IS THE sha256 OF THE DUMP (.gsa) THAT YtfbpbpbmnieieaaProg.lean LOADS. Nothing in Lean hashes anything: it is a label: what it is worth is what the hold of that sum in a sandbox is worth. -/
noncomputable def Try.pinned : Pinned := { name := "ytfbpbpbmnieieaa", sum := "e3ba4554af9df3aacea3bb358796ff9c35e3ac73a4c45420eb0512722b9667d5", checked := Try.checked }
namespace Rows
def none {H : Type} : Left H := { results := [], args := [] }

/-- 'laws.FnExactRepeatVector': WHATEVER THE INPUT: true; the input reads as it did. -/
def fnExactRepeatVectorSpec : ChangeSpec := { name := "fnExactRepeatVector", fn := fun _ => fun
  | [d1, d2] => { results := [.lit (.bool true)], args := [d1, d2] }
  | _ => none }
def fnExactRepeatVectorRow : OpenClaim := { program := "ytfbpbpbmnieieaa", sum := "e3ba4554af9df3aacea3bb358796ff9c35e3ac73a4c45420eb0512722b9667d5", func := "loop.example/g03406/laws.FnExactRepeatVector", spec := "fnExactRepeatVector", unfollowed := true, recurses := true, loops := true, apart := false }
def FnExactRepeatVectorSaid : Prop := fnExactRepeatVectorRow.holds Try.pinned (OpenSpec.ofChange fnExactRepeatVectorSpec)

/-- ITS FALSE NEIGHBOUR: 'it returns false'. Refute it at one input. -/
def fnExactRepeatVectorWrong : ChangeSpec := { name := "fnExactRepeatVector", fn := fun _ => fun
  | [d1, d2] => { results := [.lit (.bool false)], args := [d1, d2] }
  | _ => none }
def FnExactRepeatVectorWrongFalsely : Prop := fnExactRepeatVectorRow.holds Try.pinned (OpenSpec.ofChange fnExactRepeatVectorWrong)

/-- 'laws.FnExactListVector': WHATEVER THE INPUT: true; the input reads as it did. -/
def fnExactListVectorSpec : ChangeSpec := { name := "fnExactListVector", fn := fun _ => fun
  | [d1, d2] => { results := [.lit (.bool true)], args := [d1, d2] }
  | _ => none }
def fnExactListVectorRow : OpenClaim := { program := "ytfbpbpbmnieieaa", sum := "e3ba4554af9df3aacea3bb358796ff9c35e3ac73a4c45420eb0512722b9667d5", func := "loop.example/g03406/laws.FnExactListVector", spec := "fnExactListVector", unfollowed := true, recurses := true, loops := true, apart := false }
def FnExactListVectorSaid : Prop := fnExactListVectorRow.holds Try.pinned (OpenSpec.ofChange fnExactListVectorSpec)

/-- ITS FALSE NEIGHBOUR: 'it returns false'. Refute it at one input. -/
def fnExactListVectorWrong : ChangeSpec := { name := "fnExactListVector", fn := fun _ => fun
  | [d1, d2] => { results := [.lit (.bool false)], args := [d1, d2] }
  | _ => none }
def FnExactListVectorWrongFalsely : Prop := fnExactListVectorRow.holds Try.pinned (OpenSpec.ofChange fnExactListVectorWrong)

/-- 'laws.FnExactReverseOf': WHATEVER THE INPUT: true; the input reads as it did. -/
def fnExactReverseOfSpec : ChangeSpec := { name := "fnExactReverseOf", fn := fun _ => fun
  | [d] => { results := [.lit (.bool true)], args := [d] }
  | _ => none }
def fnExactReverseOfRow : OpenClaim := { program := "ytfbpbpbmnieieaa", sum := "e3ba4554af9df3aacea3bb358796ff9c35e3ac73a4c45420eb0512722b9667d5", func := "loop.example/g03406/laws.FnExactReverseOf", spec := "fnExactReverseOf", unfollowed := true, recurses := true, loops := true, apart := false }
def FnExactReverseOfSaid : Prop := fnExactReverseOfRow.holds Try.pinned (OpenSpec.ofChange fnExactReverseOfSpec)

/-- ITS FALSE NEIGHBOUR: 'it returns false'. Refute it at one input. -/
def fnExactReverseOfWrong : ChangeSpec := { name := "fnExactReverseOf", fn := fun _ => fun
  | [d] => { results := [.lit (.bool false)], args := [d] }
  | _ => none }
def FnExactReverseOfWrongFalsely : Prop := fnExactReverseOfRow.holds Try.pinned (OpenSpec.ofChange fnExactReverseOfWrong)

/-- 'laws.FnExactDuplicatedIn': WHATEVER THE INPUT: true; the input reads as it did. -/
def fnExactDuplicatedInSpec : ChangeSpec := { name := "fnExactDuplicatedIn", fn := fun _ => fun
  | [d] => { results := [.lit (.bool true)], args := [d] }
  | _ => none }
def fnExactDuplicatedInRow : OpenClaim := { program := "ytfbpbpbmnieieaa", sum := "e3ba4554af9df3aacea3bb358796ff9c35e3ac73a4c45420eb0512722b9667d5", func := "loop.example/g03406/laws.FnExactDuplicatedIn", spec := "fnExactDuplicatedIn", unfollowed := true, recurses := true, loops := true, apart := false }
def FnExactDuplicatedInSaid : Prop := fnExactDuplicatedInRow.holds Try.pinned (OpenSpec.ofChange fnExactDuplicatedInSpec)

/-- ITS FALSE NEIGHBOUR: 'it returns false'. Refute it at one input. -/
def fnExactDuplicatedInWrong : ChangeSpec := { name := "fnExactDuplicatedIn", fn := fun _ => fun
  | [d] => { results := [.lit (.bool false)], args := [d] }
  | _ => none }
def FnExactDuplicatedInWrongFalsely : Prop := fnExactDuplicatedInRow.holds Try.pinned (OpenSpec.ofChange fnExactDuplicatedInWrong)

/-- 'laws.FnExactUniqueOf': WHATEVER THE INPUT: true; the input reads as it did. -/
def fnExactUniqueOfSpec : ChangeSpec := { name := "fnExactUniqueOf", fn := fun _ => fun
  | [d] => { results := [.lit (.bool true)], args := [d] }
  | _ => none }
def fnExactUniqueOfRow : OpenClaim := { program := "ytfbpbpbmnieieaa", sum := "e3ba4554af9df3aacea3bb358796ff9c35e3ac73a4c45420eb0512722b9667d5", func := "loop.example/g03406/laws.FnExactUniqueOf", spec := "fnExactUniqueOf", unfollowed := true, recurses := true, loops := true, apart := false }
def FnExactUniqueOfSaid : Prop := fnExactUniqueOfRow.holds Try.pinned (OpenSpec.ofChange fnExactUniqueOfSpec)

/-- ITS FALSE NEIGHBOUR: 'it returns false'. Refute it at one input. -/
def fnExactUniqueOfWrong : ChangeSpec := { name := "fnExactUniqueOf", fn := fun _ => fun
  | [d] => { results := [.lit (.bool false)], args := [d] }
  | _ => none }
def FnExactUniqueOfWrongFalsely : Prop := fnExactUniqueOfRow.holds Try.pinned (OpenSpec.ofChange fnExactUniqueOfWrong)

/-- 'laws.FnExactWhichOf': WHATEVER THE INPUT: true; the input reads as it did. -/
def fnExactWhichOfSpec : ChangeSpec := { name := "fnExactWhichOf", fn := fun _ => fun
  | [d] => { results := [.lit (.bool true)], args := [d] }
  | _ => none }
def fnExactWhichOfRow : OpenClaim := { program := "ytfbpbpbmnieieaa", sum := "e3ba4554af9df3aacea3bb358796ff9c35e3ac73a4c45420eb0512722b9667d5", func := "loop.example/g03406/laws.FnExactWhichOf", spec := "fnExactWhichOf", unfollowed := true, recurses := true, loops := true, apart := false }
def FnExactWhichOfSaid : Prop := fnExactWhichOfRow.holds Try.pinned (OpenSpec.ofChange fnExactWhichOfSpec)

/-- ITS FALSE NEIGHBOUR: 'it returns false'. Refute it at one input. -/
def fnExactWhichOfWrong : ChangeSpec := { name := "fnExactWhichOf", fn := fun _ => fun
  | [d] => { results := [.lit (.bool false)], args := [d] }
  | _ => none }
def FnExactWhichOfWrongFalsely : Prop := fnExactWhichOfRow.holds Try.pinned (OpenSpec.ofChange fnExactWhichOfWrong)

/-- 'laws.FnExactRanksOf': WHATEVER THE INPUT: true; the input reads as it did. -/
def fnExactRanksOfSpec : ChangeSpec := { name := "fnExactRanksOf", fn := fun _ => fun
  | [d] => { results := [.lit (.bool true)], args := [d] }
  | _ => none }
def fnExactRanksOfRow : OpenClaim := { program := "ytfbpbpbmnieieaa", sum := "e3ba4554af9df3aacea3bb358796ff9c35e3ac73a4c45420eb0512722b9667d5", func := "loop.example/g03406/laws.FnExactRanksOf", spec := "fnExactRanksOf", inPlace := ["internal/bytealg.abigen_runtime_cmpstring"], unfollowed := true, recurses := true, loops := true, apart := false }
def FnExactRanksOfSaid : Prop := fnExactRanksOfRow.holds Try.pinned (OpenSpec.ofChange fnExactRanksOfSpec)

/-- ITS FALSE NEIGHBOUR: 'it returns false'. Refute it at one input. -/
def fnExactRanksOfWrong : ChangeSpec := { name := "fnExactRanksOf", fn := fun _ => fun
  | [d] => { results := [.lit (.bool false)], args := [d] }
  | _ => none }
def FnExactRanksOfWrongFalsely : Prop := fnExactRanksOfRow.holds Try.pinned (OpenSpec.ofChange fnExactRanksOfWrong)

/- THE SECOND FORM. 'bulk': how many values and letters a reading holds, each counted each time it is reached (what is shared counts as often as it is met; a slice's spare places count too). A statement '..UptoSaid' is the law's where the arguments, and the package variables that the reading takes, are together of bulk at most 1048576: NARROWER than '..Said'. Prove '..Said' where nothing that the law and all that it calls make is longer than what came in: it says more and counts as full. Else prove '..UptoSaid'. A law counts once. -/
mutual
def uptoBulk {H : Type} : DataW H → Nat
  | .lit (.string bytes) => bytes.length + 1
  | .lit _ => 1
  | .nil => 1
  | .ptr d => uptoBulk d + 1
  | .slice elems spare => uptoBulkAll elems + uptoBulkAll spare + 1
  | .agg parts => uptoBulkAll parts + 1
  | .iface _ d => uptoBulk d + 1
  | .map entries => uptoBulkEntries entries + 1
  | .held _ => 1
def uptoBulkAll {H : Type} : List (DataW H) → Nat
  | [] => 0
  | d :: r => uptoBulk d + uptoBulkAll r
def uptoBulkEntries {H : Type} : List (Lit × DataW H) → Nat
  | [] => 0
  | x :: r => uptoBulkEntry x + uptoBulkEntries r
def uptoBulkEntry {H : Type} : Lit × DataW H → Nat
  | (.string bytes, d) => bytes.length + uptoBulk d + 1
  | (_, d) => uptoBulk d + 1
 end
def uptoSmall : (H : Type) → List (DataW H) → Bool := fun _ ds => decide (uptoBulkAll ds ≤ 1048576)
def OpenSpec.upto (s : _root_.Go.ChangeSpec) : _root_.Go.OpenSpec := { _root_.Go.OpenSpec.ofChange s with cond := some uptoSmall }

/-- 'laws.FnExactRepeatVector', WHERE WHAT IT READS IS OF BULK AT MOST 1048576: true; the input reads as it did. -/
def fnExactRepeatVectorUptoRow : OpenClaim := { program := "ytfbpbpbmnieieaa", sum := "e3ba4554af9df3aacea3bb358796ff9c35e3ac73a4c45420eb0512722b9667d5", func := "loop.example/g03406/laws.FnExactRepeatVector", spec := "fnExactRepeatVector", unfollowed := true, recurses := true, loops := true, apart := false, narrowed := true }
def FnExactRepeatVectorUptoSaid : Prop := fnExactRepeatVectorUptoRow.holds Try.pinned (OpenSpec.upto fnExactRepeatVectorSpec)

/-- 'laws.FnExactListVector', WHERE WHAT IT READS IS OF BULK AT MOST 1048576: true; the input reads as it did. -/
def fnExactListVectorUptoRow : OpenClaim := { program := "ytfbpbpbmnieieaa", sum := "e3ba4554af9df3aacea3bb358796ff9c35e3ac73a4c45420eb0512722b9667d5", func := "loop.example/g03406/laws.FnExactListVector", spec := "fnExactListVector", unfollowed := true, recurses := true, loops := true, apart := false, narrowed := true }
def FnExactListVectorUptoSaid : Prop := fnExactListVectorUptoRow.holds Try.pinned (OpenSpec.upto fnExactListVectorSpec)

/-- 'laws.FnExactReverseOf', WHERE WHAT IT READS IS OF BULK AT MOST 1048576: true; the input reads as it did. -/
def fnExactReverseOfUptoRow : OpenClaim := { program := "ytfbpbpbmnieieaa", sum := "e3ba4554af9df3aacea3bb358796ff9c35e3ac73a4c45420eb0512722b9667d5", func := "loop.example/g03406/laws.FnExactReverseOf", spec := "fnExactReverseOf", unfollowed := true, recurses := true, loops := true, apart := false, narrowed := true }
def FnExactReverseOfUptoSaid : Prop := fnExactReverseOfUptoRow.holds Try.pinned (OpenSpec.upto fnExactReverseOfSpec)

/-- 'laws.FnExactDuplicatedIn', WHERE WHAT IT READS IS OF BULK AT MOST 1048576: true; the input reads as it did. -/
def fnExactDuplicatedInUptoRow : OpenClaim := { program := "ytfbpbpbmnieieaa", sum := "e3ba4554af9df3aacea3bb358796ff9c35e3ac73a4c45420eb0512722b9667d5", func := "loop.example/g03406/laws.FnExactDuplicatedIn", spec := "fnExactDuplicatedIn", unfollowed := true, recurses := true, loops := true, apart := false, narrowed := true }
def FnExactDuplicatedInUptoSaid : Prop := fnExactDuplicatedInUptoRow.holds Try.pinned (OpenSpec.upto fnExactDuplicatedInSpec)

/-- 'laws.FnExactUniqueOf', WHERE WHAT IT READS IS OF BULK AT MOST 1048576: true; the input reads as it did. -/
def fnExactUniqueOfUptoRow : OpenClaim := { program := "ytfbpbpbmnieieaa", sum := "e3ba4554af9df3aacea3bb358796ff9c35e3ac73a4c45420eb0512722b9667d5", func := "loop.example/g03406/laws.FnExactUniqueOf", spec := "fnExactUniqueOf", unfollowed := true, recurses := true, loops := true, apart := false, narrowed := true }
def FnExactUniqueOfUptoSaid : Prop := fnExactUniqueOfUptoRow.holds Try.pinned (OpenSpec.upto fnExactUniqueOfSpec)

/-- 'laws.FnExactWhichOf', WHERE WHAT IT READS IS OF BULK AT MOST 1048576: true; the input reads as it did. -/
def fnExactWhichOfUptoRow : OpenClaim := { program := "ytfbpbpbmnieieaa", sum := "e3ba4554af9df3aacea3bb358796ff9c35e3ac73a4c45420eb0512722b9667d5", func := "loop.example/g03406/laws.FnExactWhichOf", spec := "fnExactWhichOf", unfollowed := true, recurses := true, loops := true, apart := false, narrowed := true }
def FnExactWhichOfUptoSaid : Prop := fnExactWhichOfUptoRow.holds Try.pinned (OpenSpec.upto fnExactWhichOfSpec)

/-- 'laws.FnExactRanksOf', WHERE WHAT IT READS IS OF BULK AT MOST 1048576: true; the input reads as it did. -/
def fnExactRanksOfUptoRow : OpenClaim := { program := "ytfbpbpbmnieieaa", sum := "e3ba4554af9df3aacea3bb358796ff9c35e3ac73a4c45420eb0512722b9667d5", func := "loop.example/g03406/laws.FnExactRanksOf", spec := "fnExactRanksOf", inPlace := ["internal/bytealg.abigen_runtime_cmpstring"], unfollowed := true, recurses := true, loops := true, apart := false, narrowed := true }
def FnExactRanksOfUptoSaid : Prop := fnExactRanksOfUptoRow.holds Try.pinned (OpenSpec.upto fnExactRanksOfSpec)

end Rows
end Go.Proofs.Ytfbpbpbmnieieaa
