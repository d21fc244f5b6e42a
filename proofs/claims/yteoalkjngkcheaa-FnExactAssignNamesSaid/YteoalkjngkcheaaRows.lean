/-
  NARROWER THAN 'FOR EVERY INPUT', by the rows' own cells (each row's printed sentence says how): FnExactAssignNames: loops · FnExactAssignClass: loops · FnExactAssignLevels: loops.
  DERIVED. THE GIVEN ROWS OF THIS SEAT. 3 by the template 'for every input the law returns true; each argument reads behind the call as it read before'; 0 by the template 'total and deterministic' (their statements: YteoalkjngkcheaaTotals.lean).
  GIVEN WITH THE SEED: the statements are not yours to turn. If you find one false, say at which input.
  Laid BY PROGRAM, IN A SANDBOX (cutbox-rows.mjs): the forced cells as the released guide's own fill.sh prints them over the translation 2e0db2e542926c00… (all of the seat's roots in one cut). By AI agents, Wed Nov 11 2026. No macro, syntax, notation, axiom, sorry.
-/
import Derived.Test.YteoalkjngkcheaaChecked
import GoSem.Claim
import GoSem.ClaimJoined
import GoSem.ClaimMapViews
import Derived.JoinedTies
import Derived.KernelRfl
namespace Go.Proofs.Yteoalkjngkcheaa
/- THE CELL 'sum', in the pinned program and in every row, IS THE sha256 OF THE DUMP (.gsa) THAT YteoalkjngkcheaaProg.lean LOADS. Nothing in Lean hashes anything: it is a label: what it is worth is what the hold of that sum in a sandbox is worth. -/
noncomputable def Try.pinned : Pinned := { name := "yteoalkjngkcheaa", sum := "2e0db2e542926c000ac2d5c446ac822ff1f951bb1ff1e4e04f7d1652ae336ee1", checked := Try.checked }
namespace Rows
def none {H : Type} : Left H := { results := [], args := [] }

/-- 'laws.FnExactAssignNames': WHATEVER THE INPUT: true; the input reads as it did. -/
def fnExactAssignNamesSpec : ChangeSpec := { name := "fnExactAssignNames", fn := fun _ => fun
  | [d1, d2] => { results := [.lit (.bool true)], args := [d1, d2] }
  | _ => none }
def fnExactAssignNamesRow : OpenClaim := { program := "yteoalkjngkcheaa", sum := "2e0db2e542926c000ac2d5c446ac822ff1f951bb1ff1e4e04f7d1652ae336ee1", func := "loop.example/g03406/laws.FnExactAssignNames", spec := "fnExactAssignNames", unfollowed := true, recurses := true, loops := true, apart := false }
def FnExactAssignNamesSaid : Prop := fnExactAssignNamesRow.holds Try.pinned (OpenSpec.ofChange fnExactAssignNamesSpec)

/-- ITS FALSE NEIGHBOUR: 'it returns false'. Refute it at one input. -/
def fnExactAssignNamesWrong : ChangeSpec := { name := "fnExactAssignNames", fn := fun _ => fun
  | [d1, d2] => { results := [.lit (.bool false)], args := [d1, d2] }
  | _ => none }
def FnExactAssignNamesWrongFalsely : Prop := fnExactAssignNamesRow.holds Try.pinned (OpenSpec.ofChange fnExactAssignNamesWrong)

/-- 'laws.FnExactAssignClass': WHATEVER THE INPUT: true; the input reads as it did. -/
def fnExactAssignClassSpec : ChangeSpec := { name := "fnExactAssignClass", fn := fun _ => fun
  | [d1, d2] => { results := [.lit (.bool true)], args := [d1, d2] }
  | _ => none }
def fnExactAssignClassRow : OpenClaim := { program := "yteoalkjngkcheaa", sum := "2e0db2e542926c000ac2d5c446ac822ff1f951bb1ff1e4e04f7d1652ae336ee1", func := "loop.example/g03406/laws.FnExactAssignClass", spec := "fnExactAssignClass", unfollowed := true, recurses := true, loops := true, apart := false }
def FnExactAssignClassSaid : Prop := fnExactAssignClassRow.holds Try.pinned (OpenSpec.ofChange fnExactAssignClassSpec)

/-- ITS FALSE NEIGHBOUR: 'it returns false'. Refute it at one input. -/
def fnExactAssignClassWrong : ChangeSpec := { name := "fnExactAssignClass", fn := fun _ => fun
  | [d1, d2] => { results := [.lit (.bool false)], args := [d1, d2] }
  | _ => none }
def FnExactAssignClassWrongFalsely : Prop := fnExactAssignClassRow.holds Try.pinned (OpenSpec.ofChange fnExactAssignClassWrong)

/-- 'laws.FnExactAssignLevels': WHATEVER THE INPUT: true; the input reads as it did. -/
def fnExactAssignLevelsSpec : ChangeSpec := { name := "fnExactAssignLevels", fn := fun _ => fun
  | [d1, d2] => { results := [.lit (.bool true)], args := [d1, d2] }
  | _ => none }
def fnExactAssignLevelsRow : OpenClaim := { program := "yteoalkjngkcheaa", sum := "2e0db2e542926c000ac2d5c446ac822ff1f951bb1ff1e4e04f7d1652ae336ee1", func := "loop.example/g03406/laws.FnExactAssignLevels", spec := "fnExactAssignLevels", unfollowed := true, recurses := true, loops := true, apart := false }
def FnExactAssignLevelsSaid : Prop := fnExactAssignLevelsRow.holds Try.pinned (OpenSpec.ofChange fnExactAssignLevelsSpec)

/-- ITS FALSE NEIGHBOUR: 'it returns false'. Refute it at one input. -/
def fnExactAssignLevelsWrong : ChangeSpec := { name := "fnExactAssignLevels", fn := fun _ => fun
  | [d1, d2] => { results := [.lit (.bool false)], args := [d1, d2] }
  | _ => none }
def FnExactAssignLevelsWrongFalsely : Prop := fnExactAssignLevelsRow.holds Try.pinned (OpenSpec.ofChange fnExactAssignLevelsWrong)

/- THE SECOND FORM. 'bulk': how many values and letters a reading holds, each counted each time it is reached (what is shared counts as often as it is met; a slice's spare places count too). A statement '..UptoSaid' is the law's where the arguments, and the package variables that the reading takes, are together of bulk at most 1048576: NARROWER than '..Said'. Prove '..Said' where nothing that the law and all that it calls make is longer than what came in: it says more and counts as full. Else prove '..UptoSaid'. A law counts once. -/
mutual
def uptoBulk {H : Type} : DataW H → Nat
  | .lit (.string bytes) => bytes.length + 1
  | .lit _ => 1
  | .nil => 1
  | .ptr d => uptoBulk d + 1
  | .slice elems spare => uptoBulkAll elems + uptoBulkAll spare + 1
  | .agg parts => uptoBulkAll parts + 1
  | .iface _ d => uptoBulk d + 1
  | .map entries => uptoBulkEntries entries + 1
  | .held _ => 1
def uptoBulkAll {H : Type} : List (DataW H) → Nat
  | [] => 0
  | d :: r => uptoBulk d + uptoBulkAll r
def uptoBulkEntries {H : Type} : List (Lit × DataW H) → Nat
  | [] => 0
  | x :: r => uptoBulkEntry x + uptoBulkEntries r
def uptoBulkEntry {H : Type} : Lit × DataW H → Nat
  | (.string bytes, d) => bytes.length + uptoBulk d + 1
  | (_, d) => uptoBulk d + 1
 end
def uptoSmall : (H : Type) → List (DataW H) → Bool := fun _ ds => decide (uptoBulkAll ds ≤ 1048576)
def OpenSpec.upto (s : _root_.Go.ChangeSpec) : _root_.Go.OpenSpec := { _root_.Go.OpenSpec.ofChange s with cond := some uptoSmall }

/-- 'laws.FnExactAssignNames', WHERE WHAT IT READS IS OF BULK AT MOST 1048576: true; the input reads as it did. -/
def fnExactAssignNamesUptoRow : OpenClaim := { program := "yteoalkjngkcheaa", sum := "2e0db2e542926c000ac2d5c446ac822ff1f951bb1ff1e4e04f7d1652ae336ee1", func := "loop.example/g03406/laws.FnExactAssignNames", spec := "fnExactAssignNames", unfollowed := true, recurses := true, loops := true, apart := false, narrowed := true }
def FnExactAssignNamesUptoSaid : Prop := fnExactAssignNamesUptoRow.holds Try.pinned (OpenSpec.upto fnExactAssignNamesSpec)

/-- 'laws.FnExactAssignClass', WHERE WHAT IT READS IS OF BULK AT MOST 1048576: true; the input reads as it did. -/
def fnExactAssignClassUptoRow : OpenClaim := { program := "yteoalkjngkcheaa", sum := "2e0db2e542926c000ac2d5c446ac822ff1f951bb1ff1e4e04f7d1652ae336ee1", func := "loop.example/g03406/laws.FnExactAssignClass", spec := "fnExactAssignClass", unfollowed := true, recurses := true, loops := true, apart := false, narrowed := true }
def FnExactAssignClassUptoSaid : Prop := fnExactAssignClassUptoRow.holds Try.pinned (OpenSpec.upto fnExactAssignClassSpec)

/-- 'laws.FnExactAssignLevels', WHERE WHAT IT READS IS OF BULK AT MOST 1048576: true; the input reads as it did. -/
def fnExactAssignLevelsUptoRow : OpenClaim := { program := "yteoalkjngkcheaa", sum := "2e0db2e542926c000ac2d5c446ac822ff1f951bb1ff1e4e04f7d1652ae336ee1", func := "loop.example/g03406/laws.FnExactAssignLevels", spec := "fnExactAssignLevels", unfollowed := true, recurses := true, loops := true, apart := false, narrowed := true }
def FnExactAssignLevelsUptoSaid : Prop := fnExactAssignLevelsUptoRow.holds Try.pinned (OpenSpec.upto fnExactAssignLevelsSpec)

end Rows
end Go.Proofs.Yteoalkjngkcheaa
