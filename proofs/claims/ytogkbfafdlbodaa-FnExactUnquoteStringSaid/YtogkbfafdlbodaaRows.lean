/-
  No cell of these rows narrows 'for every input' (looked for: loops, veiled, ifaces, maps, wideKeys, modest, calm, conditions, laid).
  DERIVED. THE GIVEN ROWS OF THIS SEAT. 5 by the template 'for every input the law returns true; each argument reads behind the call as it read before'; 0 by the template 'total and deterministic' (their statements: YtogkbfafdlbodaaTotals.lean).
  GIVEN WITH THE SEED: the statements are not yours to turn. If you find one false, say at which input.
  Laid BY PROGRAM, IN A SANDBOX (cutbox-rows.mjs): the forced cells as the released guide's own fill.sh prints them over the translation 16ca4e4b1c701eab… (all of the seat's roots in one cut). By AI agents, Wed Nov 11 2026. No macro, syntax, notation, axiom, sorry.
-/
import Derived.Test.YtogkbfafdlbodaaChecked
import GoSem.Claim
import GoSem.ClaimJoined
import GoSem.ClaimMapViews
import Derived.JoinedTies
import Derived.KernelRfl
namespace Go.Proofs.Ytogkbfafdlbodaa
/- THE CELL 'sum', in the pinned program and in every row, IS THE sha256 OF THE DUMP (.gsa) THAT YtogkbfafdlbodaaProg.lean LOADS. Nothing in Lean hashes anything: it is a label: what it is worth is what the hold of that sum in a sandbox is worth. -/
noncomputable def Try.pinned : Pinned := { name := "ytogkbfafdlbodaa", sum := "16ca4e4b1c701eabc58260c49a01e9f3360cbf043d45ed8136ab50d6e8f97435", checked := Try.checked }
namespace Rows
def none {H : Type} : Left H := { results := [], args := [] }

/-- 'laws.FnExactQuoteString': WHATEVER THE INPUT: true; the input reads as it did. -/
def fnExactQuoteStringSpec : ChangeSpec := { name := "fnExactQuoteString", fn := fun _ => fun
  | [d] => { results := [.lit (.bool true)], args := [d] }
  | _ => none }
def fnExactQuoteStringRow : OpenClaim := { program := "ytogkbfafdlbodaa", sum := "16ca4e4b1c701eabc58260c49a01e9f3360cbf043d45ed8136ab50d6e8f97435", func := "loop.example/g03406/laws.FnExactQuoteString", spec := "fnExactQuoteString", inPlace := ["internal/abi.NoEscape"], apart := false }
def FnExactQuoteStringSaid : Prop := fnExactQuoteStringRow.holds Try.pinned (OpenSpec.ofChange fnExactQuoteStringSpec)

/-- ITS FALSE NEIGHBOUR: 'it returns false'. Refute it at one input. -/
def fnExactQuoteStringWrong : ChangeSpec := { name := "fnExactQuoteString", fn := fun _ => fun
  | [d] => { results := [.lit (.bool false)], args := [d] }
  | _ => none }
def FnExactQuoteStringWrongFalsely : Prop := fnExactQuoteStringRow.holds Try.pinned (OpenSpec.ofChange fnExactQuoteStringWrong)

/-- 'laws.FnExactUnquoteString': WHATEVER THE INPUT: true; the input reads as it did. -/
def fnExactUnquoteStringSpec : ChangeSpec := { name := "fnExactUnquoteString", fn := fun _ => fun
  | [d] => { results := [.lit (.bool true)], args := [d] }
  | _ => none }
def fnExactUnquoteStringRow : OpenClaim := { program := "ytogkbfafdlbodaa", sum := "16ca4e4b1c701eabc58260c49a01e9f3360cbf043d45ed8136ab50d6e8f97435", func := "loop.example/g03406/laws.FnExactUnquoteString", spec := "fnExactUnquoteString", inPlace := ["internal/bytealg.IndexByteString", "internal/abi.NoEscape"], apart := false }
def FnExactUnquoteStringSaid : Prop := fnExactUnquoteStringRow.holds Try.pinned (OpenSpec.ofChange fnExactUnquoteStringSpec)

/-- ITS FALSE NEIGHBOUR: 'it returns false'. Refute it at one input. -/
def fnExactUnquoteStringWrong : ChangeSpec := { name := "fnExactUnquoteString", fn := fun _ => fun
  | [d] => { results := [.lit (.bool false)], args := [d] }
  | _ => none }
def FnExactUnquoteStringWrongFalsely : Prop := fnExactUnquoteStringRow.holds Try.pinned (OpenSpec.ofChange fnExactUnquoteStringWrong)

/-- 'laws.FnExactIsName': WHATEVER THE INPUT: true; the input reads as it did. -/
def fnExactIsNameSpec : ChangeSpec := { name := "fnExactIsName", fn := fun _ => fun
  | [d] => { results := [.lit (.bool true)], args := [d] }
  | _ => none }
def fnExactIsNameRow : OpenClaim := { program := "ytogkbfafdlbodaa", sum := "16ca4e4b1c701eabc58260c49a01e9f3360cbf043d45ed8136ab50d6e8f97435", func := "loop.example/g03406/laws.FnExactIsName", spec := "fnExactIsName", apart := false }
def FnExactIsNameSaid : Prop := fnExactIsNameRow.holds Try.pinned (OpenSpec.ofChange fnExactIsNameSpec)

/-- ITS FALSE NEIGHBOUR: 'it returns false'. Refute it at one input. -/
def fnExactIsNameWrong : ChangeSpec := { name := "fnExactIsName", fn := fun _ => fun
  | [d] => { results := [.lit (.bool false)], args := [d] }
  | _ => none }
def FnExactIsNameWrongFalsely : Prop := fnExactIsNameRow.holds Try.pinned (OpenSpec.ofChange fnExactIsNameWrong)

/-- 'laws.FnExactIsSyntacticName': WHATEVER THE INPUT: true; the input reads as it did. -/
def fnExactIsSyntacticNameSpec : ChangeSpec := { name := "fnExactIsSyntacticName", fn := fun _ => fun
  | [d] => { results := [.lit (.bool true)], args := [d] }
  | _ => none }
def fnExactIsSyntacticNameRow : OpenClaim := { program := "ytogkbfafdlbodaa", sum := "16ca4e4b1c701eabc58260c49a01e9f3360cbf043d45ed8136ab50d6e8f97435", func := "loop.example/g03406/laws.FnExactIsSyntacticName", spec := "fnExactIsSyntacticName", apart := false }
def FnExactIsSyntacticNameSaid : Prop := fnExactIsSyntacticNameRow.holds Try.pinned (OpenSpec.ofChange fnExactIsSyntacticNameSpec)

/-- ITS FALSE NEIGHBOUR: 'it returns false'. Refute it at one input. -/
def fnExactIsSyntacticNameWrong : ChangeSpec := { name := "fnExactIsSyntacticName", fn := fun _ => fun
  | [d] => { results := [.lit (.bool false)], args := [d] }
  | _ => none }
def FnExactIsSyntacticNameWrongFalsely : Prop := fnExactIsSyntacticNameRow.holds Try.pinned (OpenSpec.ofChange fnExactIsSyntacticNameWrong)

/-- 'laws.FnExactFormatName': WHATEVER THE INPUT: true; the input reads as it did. -/
def fnExactFormatNameSpec : ChangeSpec := { name := "fnExactFormatName", fn := fun _ => fun
  | [d] => { results := [.lit (.bool true)], args := [d] }
  | _ => none }
def fnExactFormatNameRow : OpenClaim := { program := "ytogkbfafdlbodaa", sum := "16ca4e4b1c701eabc58260c49a01e9f3360cbf043d45ed8136ab50d6e8f97435", func := "loop.example/g03406/laws.FnExactFormatName", spec := "fnExactFormatName", apart := false }
def FnExactFormatNameSaid : Prop := fnExactFormatNameRow.holds Try.pinned (OpenSpec.ofChange fnExactFormatNameSpec)

/-- ITS FALSE NEIGHBOUR: 'it returns false'. Refute it at one input. -/
def fnExactFormatNameWrong : ChangeSpec := { name := "fnExactFormatName", fn := fun _ => fun
  | [d] => { results := [.lit (.bool false)], args := [d] }
  | _ => none }
def FnExactFormatNameWrongFalsely : Prop := fnExactFormatNameRow.holds Try.pinned (OpenSpec.ofChange fnExactFormatNameWrong)

/- THE SECOND FORM. 'bulk': how many values and letters a reading holds, each counted each time it is reached (what is shared counts as often as it is met; a slice's spare places count too). A statement '..UptoSaid' is the law's where the arguments, and the package variables that the reading takes, are together of bulk at most 1048576: NARROWER than '..Said'. Prove '..Said' where nothing that the law and all that it calls make is longer than what came in: it says more and counts as full. Else prove '..UptoSaid'. A law counts once. -/
mutual
def uptoBulk {H : Type} : DataW H → Nat
  | .lit (.string bytes) => bytes.length + 1
  | .lit _ => 1
  | .nil => 1
  | .ptr d => uptoBulk d + 1
  | .slice elems spare => uptoBulkAll elems + uptoBulkAll spare + 1
  | .agg parts => uptoBulkAll parts + 1
  | .iface _ d => uptoBulk d + 1
  | .map entries => uptoBulkEntries entries + 1
  | .held _ => 1
def uptoBulkAll {H : Type} : List (DataW H) → Nat
  | [] => 0
  | d :: r => uptoBulk d + uptoBulkAll r
def uptoBulkEntries {H : Type} : List (Lit × DataW H) → Nat
  | [] => 0
  | x :: r => uptoBulkEntry x + uptoBulkEntries r
def uptoBulkEntry {H : Type} : Lit × DataW H → Nat
  | (.string bytes, d) => bytes.length + uptoBulk d + 1
  | (_, d) => uptoBulk d + 1
 end
def uptoSmall : (H : Type) → List (DataW H) → Bool := fun _ ds => decide (uptoBulkAll ds ≤ 1048576)
def OpenSpec.upto (s : _root_.Go.ChangeSpec) : _root_.Go.OpenSpec := { _root_.Go.OpenSpec.ofChange s with cond := some uptoSmall }

/-- 'laws.FnExactQuoteString', WHERE WHAT IT READS IS OF BULK AT MOST 1048576: true; the input reads as it did. -/
def fnExactQuoteStringUptoRow : OpenClaim := { program := "ytogkbfafdlbodaa", sum := "16ca4e4b1c701eabc58260c49a01e9f3360cbf043d45ed8136ab50d6e8f97435", func := "loop.example/g03406/laws.FnExactQuoteString", spec := "fnExactQuoteString", inPlace := ["internal/abi.NoEscape"], apart := false, narrowed := true }
def FnExactQuoteStringUptoSaid : Prop := fnExactQuoteStringUptoRow.holds Try.pinned (OpenSpec.upto fnExactQuoteStringSpec)

/-- 'laws.FnExactUnquoteString', WHERE WHAT IT READS IS OF BULK AT MOST 1048576: true; the input reads as it did. -/
def fnExactUnquoteStringUptoRow : OpenClaim := { program := "ytogkbfafdlbodaa", sum := "16ca4e4b1c701eabc58260c49a01e9f3360cbf043d45ed8136ab50d6e8f97435", func := "loop.example/g03406/laws.FnExactUnquoteString", spec := "fnExactUnquoteString", inPlace := ["internal/bytealg.IndexByteString", "internal/abi.NoEscape"], apart := false, narrowed := true }
def FnExactUnquoteStringUptoSaid : Prop := fnExactUnquoteStringUptoRow.holds Try.pinned (OpenSpec.upto fnExactUnquoteStringSpec)

/-- 'laws.FnExactIsName', WHERE WHAT IT READS IS OF BULK AT MOST 1048576: true; the input reads as it did. -/
def fnExactIsNameUptoRow : OpenClaim := { program := "ytogkbfafdlbodaa", sum := "16ca4e4b1c701eabc58260c49a01e9f3360cbf043d45ed8136ab50d6e8f97435", func := "loop.example/g03406/laws.FnExactIsName", spec := "fnExactIsName", apart := false, narrowed := true }
def FnExactIsNameUptoSaid : Prop := fnExactIsNameUptoRow.holds Try.pinned (OpenSpec.upto fnExactIsNameSpec)

/-- 'laws.FnExactIsSyntacticName', WHERE WHAT IT READS IS OF BULK AT MOST 1048576: true; the input reads as it did. -/
def fnExactIsSyntacticNameUptoRow : OpenClaim := { program := "ytogkbfafdlbodaa", sum := "16ca4e4b1c701eabc58260c49a01e9f3360cbf043d45ed8136ab50d6e8f97435", func := "loop.example/g03406/laws.FnExactIsSyntacticName", spec := "fnExactIsSyntacticName", apart := false, narrowed := true }
def FnExactIsSyntacticNameUptoSaid : Prop := fnExactIsSyntacticNameUptoRow.holds Try.pinned (OpenSpec.upto fnExactIsSyntacticNameSpec)

/-- 'laws.FnExactFormatName', WHERE WHAT IT READS IS OF BULK AT MOST 1048576: true; the input reads as it did. -/
def fnExactFormatNameUptoRow : OpenClaim := { program := "ytogkbfafdlbodaa", sum := "16ca4e4b1c701eabc58260c49a01e9f3360cbf043d45ed8136ab50d6e8f97435", func := "loop.example/g03406/laws.FnExactFormatName", spec := "fnExactFormatName", apart := false, narrowed := true }
def FnExactFormatNameUptoSaid : Prop := fnExactFormatNameUptoRow.holds Try.pinned (OpenSpec.upto fnExactFormatNameSpec)

end Rows
end Go.Proofs.Ytogkbfafdlbodaa
