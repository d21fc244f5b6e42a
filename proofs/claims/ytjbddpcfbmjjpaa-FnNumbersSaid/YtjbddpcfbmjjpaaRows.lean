/-
  No cell of these rows narrows 'for every input' (looked for: loops, veiled, ifaces, maps, wideKeys, modest, calm, conditions, laid).
  DERIVED. THE GIVEN ROWS OF THIS SEAT. 11 by the template 'for every input the law returns true; each argument reads behind the call as it read before'; 0 by the template 'total and deterministic' (their statements: YtjbddpcfbmjjpaaTotals.lean).
  GIVEN WITH THE SEED: the statements are not yours to turn. If you find one false, say at which input.
  Laid BY PROGRAM, IN A SANDBOX (cutbox-rows.mjs): the forced cells as the released guide's own fill.sh prints them over the translation 37b18f26351fd1bd… (all of the seat's roots in one cut). By AI agents, Wed Nov 11 2026. No macro, syntax, notation, axiom, sorry.
-/
import Derived.Test.YtjbddpcfbmjjpaaChecked
import GoSem.Claim
import GoSem.ClaimJoined
import GoSem.ClaimMapViews
import Derived.JoinedTies
import Derived.KernelRfl
namespace Go.Proofs.Ytjbddpcfbmjjpaa
/- THE CELL 'sum', in the pinned program and in every row, IS THE sha256 OF THE DUMP (.gsa) THAT YtjbddpcfbmjjpaaProg.lean LOADS. Nothing in Lean hashes anything: it is a label: what it is worth is what the hold of that sum in a sandbox is worth. -/
noncomputable def Try.pinned : Pinned := { name := "ytjbddpcfbmjjpaa", sum := "37b18f26351fd1bdb81966e2afb01d7185d94e94dce5203ebe30da3930540d00", checked := Try.checked }
namespace Rows
def none {H : Type} : Left H := { results := [], args := [] }

/-- 'laws.FnNumbers': WHATEVER THE INPUT: true; the input reads as it did. -/
def fnNumbersSpec : ChangeSpec := { name := "fnNumbers", fn := fun _ => fun
  | [d] => { results := [.lit (.bool true)], args := [d] }
  | _ => none }
def fnNumbersRow : OpenClaim := { program := "ytjbddpcfbmjjpaa", sum := "37b18f26351fd1bdb81966e2afb01d7185d94e94dce5203ebe30da3930540d00", func := "loop.example/g03406/laws.FnNumbers", spec := "fnNumbers", apart := false }
def FnNumbersSaid : Prop := fnNumbersRow.holds Try.pinned (OpenSpec.ofChange fnNumbersSpec)

/-- ITS FALSE NEIGHBOUR: 'it returns false'. Refute it at one input. -/
def fnNumbersWrong : ChangeSpec := { name := "fnNumbers", fn := fun _ => fun
  | [d] => { results := [.lit (.bool false)], args := [d] }
  | _ => none }
def FnNumbersWrongFalsely : Prop := fnNumbersRow.holds Try.pinned (OpenSpec.ofChange fnNumbersWrong)

/-- 'laws.FnDivision': WHATEVER THE INPUT: true; the input reads as it did. -/
def fnDivisionSpec : ChangeSpec := { name := "fnDivision", fn := fun _ => fun
  | [d] => { results := [.lit (.bool true)], args := [d] }
  | _ => none }
def fnDivisionRow : OpenClaim := { program := "ytjbddpcfbmjjpaa", sum := "37b18f26351fd1bdb81966e2afb01d7185d94e94dce5203ebe30da3930540d00", func := "loop.example/g03406/laws.FnDivision", spec := "fnDivision", apart := false }
def FnDivisionSaid : Prop := fnDivisionRow.holds Try.pinned (OpenSpec.ofChange fnDivisionSpec)

/-- ITS FALSE NEIGHBOUR: 'it returns false'. Refute it at one input. -/
def fnDivisionWrong : ChangeSpec := { name := "fnDivision", fn := fun _ => fun
  | [d] => { results := [.lit (.bool false)], args := [d] }
  | _ => none }
def FnDivisionWrongFalsely : Prop := fnDivisionRow.holds Try.pinned (OpenSpec.ofChange fnDivisionWrong)

/-- 'laws.FnExactMakeNumber': WHATEVER THE INPUT: true; the input reads as it did. -/
def fnExactMakeNumberSpec : ChangeSpec := { name := "fnExactMakeNumber", fn := fun _ => fun
  | [d1, d2] => { results := [.lit (.bool true)], args := [d1, d2] }
  | _ => none }
def fnExactMakeNumberRow : OpenClaim := { program := "ytjbddpcfbmjjpaa", sum := "37b18f26351fd1bdb81966e2afb01d7185d94e94dce5203ebe30da3930540d00", func := "loop.example/g03406/laws.FnExactMakeNumber", spec := "fnExactMakeNumber", apart := false }
def FnExactMakeNumberSaid : Prop := fnExactMakeNumberRow.holds Try.pinned (OpenSpec.ofChange fnExactMakeNumberSpec)

/-- ITS FALSE NEIGHBOUR: 'it returns false'. Refute it at one input. -/
def fnExactMakeNumberWrong : ChangeSpec := { name := "fnExactMakeNumber", fn := fun _ => fun
  | [d1, d2] => { results := [.lit (.bool false)], args := [d1, d2] }
  | _ => none }
def FnExactMakeNumberWrongFalsely : Prop := fnExactMakeNumberRow.holds Try.pinned (OpenSpec.ofChange fnExactMakeNumberWrong)

/-- 'laws.FnExactIsNumber': WHATEVER THE INPUT: true; the input reads as it did. -/
def fnExactIsNumberSpec : ChangeSpec := { name := "fnExactIsNumber", fn := fun _ => fun
  | [d] => { results := [.lit (.bool true)], args := [d] }
  | _ => none }
def fnExactIsNumberRow : OpenClaim := { program := "ytjbddpcfbmjjpaa", sum := "37b18f26351fd1bdb81966e2afb01d7185d94e94dce5203ebe30da3930540d00", func := "loop.example/g03406/laws.FnExactIsNumber", spec := "fnExactIsNumber", apart := false }
def FnExactIsNumberSaid : Prop := fnExactIsNumberRow.holds Try.pinned (OpenSpec.ofChange fnExactIsNumberSpec)

/-- ITS FALSE NEIGHBOUR: 'it returns false'. Refute it at one input. -/
def fnExactIsNumberWrong : ChangeSpec := { name := "fnExactIsNumber", fn := fun _ => fun
  | [d] => { results := [.lit (.bool false)], args := [d] }
  | _ => none }
def FnExactIsNumberWrongFalsely : Prop := fnExactIsNumberRow.holds Try.pinned (OpenSpec.ofChange fnExactIsNumberWrong)

/-- 'laws.FnExactAddNumbers': WHATEVER THE INPUT: true; the input reads as it did. -/
def fnExactAddNumbersSpec : ChangeSpec := { name := "fnExactAddNumbers", fn := fun _ => fun
  | [d1, d2] => { results := [.lit (.bool true)], args := [d1, d2] }
  | _ => none }
def fnExactAddNumbersRow : OpenClaim := { program := "ytjbddpcfbmjjpaa", sum := "37b18f26351fd1bdb81966e2afb01d7185d94e94dce5203ebe30da3930540d00", func := "loop.example/g03406/laws.FnExactAddNumbers", spec := "fnExactAddNumbers", apart := false }
def FnExactAddNumbersSaid : Prop := fnExactAddNumbersRow.holds Try.pinned (OpenSpec.ofChange fnExactAddNumbersSpec)

/-- ITS FALSE NEIGHBOUR: 'it returns false'. Refute it at one input. -/
def fnExactAddNumbersWrong : ChangeSpec := { name := "fnExactAddNumbers", fn := fun _ => fun
  | [d1, d2] => { results := [.lit (.bool false)], args := [d1, d2] }
  | _ => none }
def FnExactAddNumbersWrongFalsely : Prop := fnExactAddNumbersRow.holds Try.pinned (OpenSpec.ofChange fnExactAddNumbersWrong)

/-- 'laws.FnExactNegateNumber': WHATEVER THE INPUT: true; the input reads as it did. -/
def fnExactNegateNumberSpec : ChangeSpec := { name := "fnExactNegateNumber", fn := fun _ => fun
  | [d] => { results := [.lit (.bool true)], args := [d] }
  | _ => none }
def fnExactNegateNumberRow : OpenClaim := { program := "ytjbddpcfbmjjpaa", sum := "37b18f26351fd1bdb81966e2afb01d7185d94e94dce5203ebe30da3930540d00", func := "loop.example/g03406/laws.FnExactNegateNumber", spec := "fnExactNegateNumber", apart := false }
def FnExactNegateNumberSaid : Prop := fnExactNegateNumberRow.holds Try.pinned (OpenSpec.ofChange fnExactNegateNumberSpec)

/-- ITS FALSE NEIGHBOUR: 'it returns false'. Refute it at one input. -/
def fnExactNegateNumberWrong : ChangeSpec := { name := "fnExactNegateNumber", fn := fun _ => fun
  | [d] => { results := [.lit (.bool false)], args := [d] }
  | _ => none }
def FnExactNegateNumberWrongFalsely : Prop := fnExactNegateNumberRow.holds Try.pinned (OpenSpec.ofChange fnExactNegateNumberWrong)

/-- 'laws.FnExactSubtractNumbers': WHATEVER THE INPUT: true; the input reads as it did. -/
def fnExactSubtractNumbersSpec : ChangeSpec := { name := "fnExactSubtractNumbers", fn := fun _ => fun
  | [d1, d2] => { results := [.lit (.bool true)], args := [d1, d2] }
  | _ => none }
def fnExactSubtractNumbersRow : OpenClaim := { program := "ytjbddpcfbmjjpaa", sum := "37b18f26351fd1bdb81966e2afb01d7185d94e94dce5203ebe30da3930540d00", func := "loop.example/g03406/laws.FnExactSubtractNumbers", spec := "fnExactSubtractNumbers", apart := false }
def FnExactSubtractNumbersSaid : Prop := fnExactSubtractNumbersRow.holds Try.pinned (OpenSpec.ofChange fnExactSubtractNumbersSpec)

/-- ITS FALSE NEIGHBOUR: 'it returns false'. Refute it at one input. -/
def fnExactSubtractNumbersWrong : ChangeSpec := { name := "fnExactSubtractNumbers", fn := fun _ => fun
  | [d1, d2] => { results := [.lit (.bool false)], args := [d1, d2] }
  | _ => none }
def FnExactSubtractNumbersWrongFalsely : Prop := fnExactSubtractNumbersRow.holds Try.pinned (OpenSpec.ofChange fnExactSubtractNumbersWrong)

/-- 'laws.FnExactMultiplyNumbers': WHATEVER THE INPUT: true; the input reads as it did. -/
def fnExactMultiplyNumbersSpec : ChangeSpec := { name := "fnExactMultiplyNumbers", fn := fun _ => fun
  | [d1, d2] => { results := [.lit (.bool true)], args := [d1, d2] }
  | _ => none }
def fnExactMultiplyNumbersRow : OpenClaim := { program := "ytjbddpcfbmjjpaa", sum := "37b18f26351fd1bdb81966e2afb01d7185d94e94dce5203ebe30da3930540d00", func := "loop.example/g03406/laws.FnExactMultiplyNumbers", spec := "fnExactMultiplyNumbers", apart := false }
def FnExactMultiplyNumbersSaid : Prop := fnExactMultiplyNumbersRow.holds Try.pinned (OpenSpec.ofChange fnExactMultiplyNumbersSpec)

/-- ITS FALSE NEIGHBOUR: 'it returns false'. Refute it at one input. -/
def fnExactMultiplyNumbersWrong : ChangeSpec := { name := "fnExactMultiplyNumbers", fn := fun _ => fun
  | [d1, d2] => { results := [.lit (.bool false)], args := [d1, d2] }
  | _ => none }
def FnExactMultiplyNumbersWrongFalsely : Prop := fnExactMultiplyNumbersRow.holds Try.pinned (OpenSpec.ofChange fnExactMultiplyNumbersWrong)

/-- 'laws.FnExactDivideNumbers': WHATEVER THE INPUT: true; the input reads as it did. -/
def fnExactDivideNumbersSpec : ChangeSpec := { name := "fnExactDivideNumbers", fn := fun _ => fun
  | [d1, d2] => { results := [.lit (.bool true)], args := [d1, d2] }
  | _ => none }
def fnExactDivideNumbersRow : OpenClaim := { program := "ytjbddpcfbmjjpaa", sum := "37b18f26351fd1bdb81966e2afb01d7185d94e94dce5203ebe30da3930540d00", func := "loop.example/g03406/laws.FnExactDivideNumbers", spec := "fnExactDivideNumbers", apart := false }
def FnExactDivideNumbersSaid : Prop := fnExactDivideNumbersRow.holds Try.pinned (OpenSpec.ofChange fnExactDivideNumbersSpec)

/-- ITS FALSE NEIGHBOUR: 'it returns false'. Refute it at one input. -/
def fnExactDivideNumbersWrong : ChangeSpec := { name := "fnExactDivideNumbers", fn := fun _ => fun
  | [d1, d2] => { results := [.lit (.bool false)], args := [d1, d2] }
  | _ => none }
def FnExactDivideNumbersWrongFalsely : Prop := fnExactDivideNumbersRow.holds Try.pinned (OpenSpec.ofChange fnExactDivideNumbersWrong)

/-- 'laws.FnExactFloorNumber': WHATEVER THE INPUT: true; the input reads as it did. -/
def fnExactFloorNumberSpec : ChangeSpec := { name := "fnExactFloorNumber", fn := fun _ => fun
  | [d] => { results := [.lit (.bool true)], args := [d] }
  | _ => none }
def fnExactFloorNumberRow : OpenClaim := { program := "ytjbddpcfbmjjpaa", sum := "37b18f26351fd1bdb81966e2afb01d7185d94e94dce5203ebe30da3930540d00", func := "loop.example/g03406/laws.FnExactFloorNumber", spec := "fnExactFloorNumber", apart := false }
def FnExactFloorNumberSaid : Prop := fnExactFloorNumberRow.holds Try.pinned (OpenSpec.ofChange fnExactFloorNumberSpec)

/-- ITS FALSE NEIGHBOUR: 'it returns false'. Refute it at one input. -/
def fnExactFloorNumberWrong : ChangeSpec := { name := "fnExactFloorNumber", fn := fun _ => fun
  | [d] => { results := [.lit (.bool false)], args := [d] }
  | _ => none }
def FnExactFloorNumberWrongFalsely : Prop := fnExactFloorNumberRow.holds Try.pinned (OpenSpec.ofChange fnExactFloorNumberWrong)

/-- 'laws.FnExactRoundNumber': WHATEVER THE INPUT: true; the input reads as it did. -/
def fnExactRoundNumberSpec : ChangeSpec := { name := "fnExactRoundNumber", fn := fun _ => fun
  | [d] => { results := [.lit (.bool true)], args := [d] }
  | _ => none }
def fnExactRoundNumberRow : OpenClaim := { program := "ytjbddpcfbmjjpaa", sum := "37b18f26351fd1bdb81966e2afb01d7185d94e94dce5203ebe30da3930540d00", func := "loop.example/g03406/laws.FnExactRoundNumber", spec := "fnExactRoundNumber", apart := false }
def FnExactRoundNumberSaid : Prop := fnExactRoundNumberRow.holds Try.pinned (OpenSpec.ofChange fnExactRoundNumberSpec)

/-- ITS FALSE NEIGHBOUR: 'it returns false'. Refute it at one input. -/
def fnExactRoundNumberWrong : ChangeSpec := { name := "fnExactRoundNumber", fn := fun _ => fun
  | [d] => { results := [.lit (.bool false)], args := [d] }
  | _ => none }
def FnExactRoundNumberWrongFalsely : Prop := fnExactRoundNumberRow.holds Try.pinned (OpenSpec.ofChange fnExactRoundNumberWrong)

/- THE SECOND FORM. 'bulk': how many values and letters a reading holds, each counted each time it is reached (what is shared counts as often as it is met; a slice's spare places count too). A statement '..UptoSaid' is the law's where the arguments, and the package variables that the reading takes, are together of bulk at most 1048576: NARROWER than '..Said'. Prove '..Said' where nothing that the law and all that it calls make is longer than what came in: it says more and counts as full. Else prove '..UptoSaid'. A law counts once. -/
mutual
def uptoBulk {H : Type} : DataW H → Nat
  | .lit (.string bytes) => bytes.length + 1
  | .lit _ => 1
  | .nil => 1
  | .ptr d => uptoBulk d + 1
  | .slice elems spare => uptoBulkAll elems + uptoBulkAll spare + 1
  | .agg parts => uptoBulkAll parts + 1
  | .iface _ d => uptoBulk d + 1
  | .map entries => uptoBulkEntries entries + 1
  | .held _ => 1
def uptoBulkAll {H : Type} : List (DataW H) → Nat
  | [] => 0
  | d :: r => uptoBulk d + uptoBulkAll r
def uptoBulkEntries {H : Type} : List (Lit × DataW H) → Nat
  | [] => 0
  | x :: r => uptoBulkEntry x + uptoBulkEntries r
def uptoBulkEntry {H : Type} : Lit × DataW H → Nat
  | (.string bytes, d) => bytes.length + uptoBulk d + 1
  | (_, d) => uptoBulk d + 1
 end
def uptoSmall : (H : Type) → List (DataW H) → Bool := fun _ ds => decide (uptoBulkAll ds ≤ 1048576)
def OpenSpec.upto (s : _root_.Go.ChangeSpec) : _root_.Go.OpenSpec := { _root_.Go.OpenSpec.ofChange s with cond := some uptoSmall }

/-- 'laws.FnNumbers', WHERE WHAT IT READS IS OF BULK AT MOST 1048576: true; the input reads as it did. -/
def fnNumbersUptoRow : OpenClaim := { program := "ytjbddpcfbmjjpaa", sum := "37b18f26351fd1bdb81966e2afb01d7185d94e94dce5203ebe30da3930540d00", func := "loop.example/g03406/laws.FnNumbers", spec := "fnNumbers", apart := false, narrowed := true }
def FnNumbersUptoSaid : Prop := fnNumbersUptoRow.holds Try.pinned (OpenSpec.upto fnNumbersSpec)

/-- 'laws.FnDivision', WHERE WHAT IT READS IS OF BULK AT MOST 1048576: true; the input reads as it did. -/
def fnDivisionUptoRow : OpenClaim := { program := "ytjbddpcfbmjjpaa", sum := "37b18f26351fd1bdb81966e2afb01d7185d94e94dce5203ebe30da3930540d00", func := "loop.example/g03406/laws.FnDivision", spec := "fnDivision", apart := false, narrowed := true }
def FnDivisionUptoSaid : Prop := fnDivisionUptoRow.holds Try.pinned (OpenSpec.upto fnDivisionSpec)

/-- 'laws.FnExactMakeNumber', WHERE WHAT IT READS IS OF BULK AT MOST 1048576: true; the input reads as it did. -/
def fnExactMakeNumberUptoRow : OpenClaim := { program := "ytjbddpcfbmjjpaa", sum := "37b18f26351fd1bdb81966e2afb01d7185d94e94dce5203ebe30da3930540d00", func := "loop.example/g03406/laws.FnExactMakeNumber", spec := "fnExactMakeNumber", apart := false, narrowed := true }
def FnExactMakeNumberUptoSaid : Prop := fnExactMakeNumberUptoRow.holds Try.pinned (OpenSpec.upto fnExactMakeNumberSpec)

/-- 'laws.FnExactIsNumber', WHERE WHAT IT READS IS OF BULK AT MOST 1048576: true; the input reads as it did. -/
def fnExactIsNumberUptoRow : OpenClaim := { program := "ytjbddpcfbmjjpaa", sum := "37b18f26351fd1bdb81966e2afb01d7185d94e94dce5203ebe30da3930540d00", func := "loop.example/g03406/laws.FnExactIsNumber", spec := "fnExactIsNumber", apart := false, narrowed := true }
def FnExactIsNumberUptoSaid : Prop := fnExactIsNumberUptoRow.holds Try.pinned (OpenSpec.upto fnExactIsNumberSpec)

/-- 'laws.FnExactAddNumbers', WHERE WHAT IT READS IS OF BULK AT MOST 1048576: true; the input reads as it did. -/
def fnExactAddNumbersUptoRow : OpenClaim := { program := "ytjbddpcfbmjjpaa", sum := "37b18f26351fd1bdb81966e2afb01d7185d94e94dce5203ebe30da3930540d00", func := "loop.example/g03406/laws.FnExactAddNumbers", spec := "fnExactAddNumbers", apart := false, narrowed := true }
def FnExactAddNumbersUptoSaid : Prop := fnExactAddNumbersUptoRow.holds Try.pinned (OpenSpec.upto fnExactAddNumbersSpec)

/-- 'laws.FnExactNegateNumber', WHERE WHAT IT READS IS OF BULK AT MOST 1048576: true; the input reads as it did. -/
def fnExactNegateNumberUptoRow : OpenClaim := { program := "ytjbddpcfbmjjpaa", sum := "37b18f26351fd1bdb81966e2afb01d7185d94e94dce5203ebe30da3930540d00", func := "loop.example/g03406/laws.FnExactNegateNumber", spec := "fnExactNegateNumber", apart := false, narrowed := true }
def FnExactNegateNumberUptoSaid : Prop := fnExactNegateNumberUptoRow.holds Try.pinned (OpenSpec.upto fnExactNegateNumberSpec)

/-- 'laws.FnExactSubtractNumbers', WHERE WHAT IT READS IS OF BULK AT MOST 1048576: true; the input reads as it did. -/
def fnExactSubtractNumbersUptoRow : OpenClaim := { program := "ytjbddpcfbmjjpaa", sum := "37b18f26351fd1bdb81966e2afb01d7185d94e94dce5203ebe30da3930540d00", func := "loop.example/g03406/laws.FnExactSubtractNumbers", spec := "fnExactSubtractNumbers", apart := false, narrowed := true }
def FnExactSubtractNumbersUptoSaid : Prop := fnExactSubtractNumbersUptoRow.holds Try.pinned (OpenSpec.upto fnExactSubtractNumbersSpec)

/-- 'laws.FnExactMultiplyNumbers', WHERE WHAT IT READS IS OF BULK AT MOST 1048576: true; the input reads as it did. -/
def fnExactMultiplyNumbersUptoRow : OpenClaim := { program := "ytjbddpcfbmjjpaa", sum := "37b18f26351fd1bdb81966e2afb01d7185d94e94dce5203ebe30da3930540d00", func := "loop.example/g03406/laws.FnExactMultiplyNumbers", spec := "fnExactMultiplyNumbers", apart := false, narrowed := true }
def FnExactMultiplyNumbersUptoSaid : Prop := fnExactMultiplyNumbersUptoRow.holds Try.pinned (OpenSpec.upto fnExactMultiplyNumbersSpec)

/-- 'laws.FnExactDivideNumbers', WHERE WHAT IT READS IS OF BULK AT MOST 1048576: true; the input reads as it did. -/
def fnExactDivideNumbersUptoRow : OpenClaim := { program := "ytjbddpcfbmjjpaa", sum := "37b18f26351fd1bdb81966e2afb01d7185d94e94dce5203ebe30da3930540d00", func := "loop.example/g03406/laws.FnExactDivideNumbers", spec := "fnExactDivideNumbers", apart := false, narrowed := true }
def FnExactDivideNumbersUptoSaid : Prop := fnExactDivideNumbersUptoRow.holds Try.pinned (OpenSpec.upto fnExactDivideNumbersSpec)

/-- 'laws.FnExactFloorNumber', WHERE WHAT IT READS IS OF BULK AT MOST 1048576: true; the input reads as it did. -/
def fnExactFloorNumberUptoRow : OpenClaim := { program := "ytjbddpcfbmjjpaa", sum := "37b18f26351fd1bdb81966e2afb01d7185d94e94dce5203ebe30da3930540d00", func := "loop.example/g03406/laws.FnExactFloorNumber", spec := "fnExactFloorNumber", apart := false, narrowed := true }
def FnExactFloorNumberUptoSaid : Prop := fnExactFloorNumberUptoRow.holds Try.pinned (OpenSpec.upto fnExactFloorNumberSpec)

/-- 'laws.FnExactRoundNumber', WHERE WHAT IT READS IS OF BULK AT MOST 1048576: true; the input reads as it did. -/
def fnExactRoundNumberUptoRow : OpenClaim := { program := "ytjbddpcfbmjjpaa", sum := "37b18f26351fd1bdb81966e2afb01d7185d94e94dce5203ebe30da3930540d00", func := "loop.example/g03406/laws.FnExactRoundNumber", spec := "fnExactRoundNumber", apart := false, narrowed := true }
def FnExactRoundNumberUptoSaid : Prop := fnExactRoundNumberUptoRow.holds Try.pinned (OpenSpec.upto fnExactRoundNumberSpec)

end Rows
end Go.Proofs.Ytjbddpcfbmjjpaa
