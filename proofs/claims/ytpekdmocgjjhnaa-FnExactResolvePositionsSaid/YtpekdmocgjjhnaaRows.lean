/-
  NARROWER THAN 'FOR EVERY INPUT', by the rows' own cells (each row's printed sentence says how): FnExactFieldOf: loops · FnExactResolvePositions: loops.
  DERIVED. THE GIVEN ROWS OF THIS SEAT. 2 by the template 'for every input the law returns true; each argument reads behind the call as it read before'; 0 by the template 'total and deterministic' (their statements: YtpekdmocgjjhnaaTotals.lean).
  GIVEN WITH THE SEED: the statements are not yours to turn. If you find one false, say at which input.
  Laid BY PROGRAM, IN A SANDBOX (cutbox-rows.mjs): the forced cells as the released guide's own fill.sh prints them over the translation 01bd2d4f9aee4ac1… (all of the seat's roots in one cut). By AI agents, Wed Nov 11 2026. No macro, syntax, notation, axiom, sorry.
-/
import Derived.Test.YtpekdmocgjjhnaaChecked
import GoSem.Claim
import GoSem.ClaimJoined
import GoSem.ClaimMapViews
import Derived.JoinedTies
import Derived.KernelRfl
namespace Go.Proofs.Ytpekdmocgjjhnaa
/- THE CELL 'sum', in the pinned program and in every row, IS THE sha256 OF THE DUMP (.gsa) THAT YtpekdmocgjjhnaaProg.lean LOADS. Nothing in Lean hashes anything: it is a label: what it is worth is what the hold of that sum in a sandbox is worth. -/
noncomputable def Try.pinned : Pinned := { name := "ytpekdmocgjjhnaa", sum := "01bd2d4f9aee4ac1decc62e2365cb5840608bcde005b20f6b2f9e08340a10f3f", checked := Try.checked }
namespace Rows
def none {H : Type} : Left H := { results := [], args := [] }

/-- 'laws.FnExactFieldOf': WHATEVER THE INPUT: true; the input reads as it did. -/
def fnExactFieldOfSpec : ChangeSpec := { name := "fnExactFieldOf", fn := fun _ => fun
  | [d1, d2] => { results := [.lit (.bool true)], args := [d1, d2] }
  | _ => none }
def fnExactFieldOfRow : OpenClaim := { program := "ytpekdmocgjjhnaa", sum := "01bd2d4f9aee4ac1decc62e2365cb5840608bcde005b20f6b2f9e08340a10f3f", func := "loop.example/g03406/laws.FnExactFieldOf", spec := "fnExactFieldOf", unfollowed := true, recurses := true, loops := true, apart := false }
def FnExactFieldOfSaid : Prop := fnExactFieldOfRow.holds Try.pinned (OpenSpec.ofChange fnExactFieldOfSpec)

/-- ITS FALSE NEIGHBOUR: 'it returns false'. Refute it at one input. -/
def fnExactFieldOfWrong : ChangeSpec := { name := "fnExactFieldOf", fn := fun _ => fun
  | [d1, d2] => { results := [.lit (.bool false)], args := [d1, d2] }
  | _ => none }
def FnExactFieldOfWrongFalsely : Prop := fnExactFieldOfRow.holds Try.pinned (OpenSpec.ofChange fnExactFieldOfWrong)

/-- 'laws.FnExactResolvePositions': WHATEVER THE INPUT: true; the input reads as it did. -/
def fnExactResolvePositionsSpec : ChangeSpec := { name := "fnExactResolvePositions", fn := fun _ => fun
  | [d1, d2, d3] => { results := [.lit (.bool true)], args := [d1, d2, d3] }
  | _ => none }
def fnExactResolvePositionsRow : OpenClaim := { program := "ytpekdmocgjjhnaa", sum := "01bd2d4f9aee4ac1decc62e2365cb5840608bcde005b20f6b2f9e08340a10f3f", func := "loop.example/g03406/laws.FnExactResolvePositions", spec := "fnExactResolvePositions", unfollowed := true, recurses := true, loops := true, apart := false }
def FnExactResolvePositionsSaid : Prop := fnExactResolvePositionsRow.holds Try.pinned (OpenSpec.ofChange fnExactResolvePositionsSpec)

/-- ITS FALSE NEIGHBOUR: 'it returns false'. Refute it at one input. -/
def fnExactResolvePositionsWrong : ChangeSpec := { name := "fnExactResolvePositions", fn := fun _ => fun
  | [d1, d2, d3] => { results := [.lit (.bool false)], args := [d1, d2, d3] }
  | _ => none }
def FnExactResolvePositionsWrongFalsely : Prop := fnExactResolvePositionsRow.holds Try.pinned (OpenSpec.ofChange fnExactResolvePositionsWrong)

/- THE SECOND FORM. 'bulk': how many values and letters a reading holds, each counted each time it is reached (what is shared counts as often as it is met; a slice's spare places count too). A statement '..UptoSaid' is the law's where the arguments, and the package variables that the reading takes, are together of bulk at most 1048576: NARROWER than '..Said'. Prove '..Said' where nothing that the law and all that it calls make is longer than what came in: it says more and counts as full. Else prove '..UptoSaid'. A law counts once. -/
mutual
def uptoBulk {H : Type} : DataW H → Nat
  | .lit (.string bytes) => bytes.length + 1
  | .lit _ => 1
  | .nil => 1
  | .ptr d => uptoBulk d + 1
  | .slice elems spare => uptoBulkAll elems + uptoBulkAll spare + 1
  | .agg parts => uptoBulkAll parts + 1
  | .iface _ d => uptoBulk d + 1
  | .map entries => uptoBulkEntries entries + 1
  | .held _ => 1
def uptoBulkAll {H : Type} : List (DataW H) → Nat
  | [] => 0
  | d :: r => uptoBulk d + uptoBulkAll r
def uptoBulkEntries {H : Type} : List (Lit × DataW H) → Nat
  | [] => 0
  | x :: r => uptoBulkEntry x + uptoBulkEntries r
def uptoBulkEntry {H : Type} : Lit × DataW H → Nat
  | (.string bytes, d) => bytes.length + uptoBulk d + 1
  | (_, d) => uptoBulk d + 1
 end
def uptoSmall : (H : Type) → List (DataW H) → Bool := fun _ ds => decide (uptoBulkAll ds ≤ 1048576)
def OpenSpec.upto (s : _root_.Go.ChangeSpec) : _root_.Go.OpenSpec := { _root_.Go.OpenSpec.ofChange s with cond := some uptoSmall }

/-- 'laws.FnExactFieldOf', WHERE WHAT IT READS IS OF BULK AT MOST 1048576: true; the input reads as it did. -/
def fnExactFieldOfUptoRow : OpenClaim := { program := "ytpekdmocgjjhnaa", sum := "01bd2d4f9aee4ac1decc62e2365cb5840608bcde005b20f6b2f9e08340a10f3f", func := "loop.example/g03406/laws.FnExactFieldOf", spec := "fnExactFieldOf", unfollowed := true, recurses := true, loops := true, apart := false, narrowed := true }
def FnExactFieldOfUptoSaid : Prop := fnExactFieldOfUptoRow.holds Try.pinned (OpenSpec.upto fnExactFieldOfSpec)

/-- 'laws.FnExactResolvePositions', WHERE WHAT IT READS IS OF BULK AT MOST 1048576: true; the input reads as it did. -/
def fnExactResolvePositionsUptoRow : OpenClaim := { program := "ytpekdmocgjjhnaa", sum := "01bd2d4f9aee4ac1decc62e2365cb5840608bcde005b20f6b2f9e08340a10f3f", func := "loop.example/g03406/laws.FnExactResolvePositions", spec := "fnExactResolvePositions", unfollowed := true, recurses := true, loops := true, apart := false, narrowed := true }
def FnExactResolvePositionsUptoSaid : Prop := fnExactResolvePositionsUptoRow.holds Try.pinned (OpenSpec.upto fnExactResolvePositionsSpec)

end Rows
end Go.Proofs.Ytpekdmocgjjhnaa
