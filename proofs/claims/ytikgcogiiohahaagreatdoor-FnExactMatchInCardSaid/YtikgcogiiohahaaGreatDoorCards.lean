/-
  DERIVED. GIVEN WITH THE SEED: THE CARDS: each row of YtikgcogiiohahaaGreatDoorRows.lean that lists a variable, with what it lists TIED to the program's text (the seventh form; the later family's looks); each row that meets fmt, with fmt's text TOLD by the authors' own Lean function (tested against real Go, not proved from fmt's source: count such statements apart). THE CARD IS WHAT COUNTS. Prove the row's statement (the work); the ties are given (YtikgcogiiohahaaGreatDoorTie.lean); close each card by the builder's one call (the guide's Derived/Test/ToyasCard.lean, 'card_holds'). Laid BY PROGRAM, IN A SANDBOX (cutbox-door.mjs). By AI agents, Wed Nov 11 2026. No macro, syntax, notation, axiom, sorry.
-/
import Derived.Test.YtikgcogiiohahaaGreatDoorRows
import GoSem.ClaimSeven
namespace Go.Proofs.YtikgcogiiohahaaGreatDoor
namespace Rows

/-- THE TIED CARD OF 'laws.FnExactMatchIn'. -/
def fnExactMatchInCard : Claim7 := { stood := { row := fnExactMatchInRow, standIns := [], harness := (true, "02fece43d90c1c9518956a59f446a5e89a5683e34a2c31554147980457efb947"), looks := false }, kinds := [], alts := [], laidByText := true, laidKinds := [.data, .data, .data], laidTests := true, laidLooks := .later }
def FnExactMatchInCardSaid : Prop := Claim7.holds Tryz.pinned (.plain (OpenSpec.ofChange fnExactMatchInSpec)) fnExactMatchInCard

/-- THE SECOND FORM's CARD OF 'laws.FnExactMatchIn'. -/
def fnExactMatchInUptoCard : Claim7 := { stood := { row := fnExactMatchInUptoRow, standIns := [], harness := (true, "02fece43d90c1c9518956a59f446a5e89a5683e34a2c31554147980457efb947"), looks := false }, kinds := [], alts := [], laidByText := true, laidKinds := [.data, .data, .data], laidTests := true, laidLooks := .later }
def FnExactMatchInUptoCardSaid : Prop := Claim7.holds Tryz.pinned (.plain (OpenSpec.upto fnExactMatchInSpec)) fnExactMatchInUptoCard
end Rows
end Go.Proofs.YtikgcogiiohahaaGreatDoor
