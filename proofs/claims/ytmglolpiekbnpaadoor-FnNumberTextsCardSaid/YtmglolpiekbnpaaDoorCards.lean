/-
  DERIVED. GIVEN WITH THE SEED: THE CARDS: each row of YtmglolpiekbnpaaDoorRows.lean that lists a variable, with what it lists TIED to the program's text (the seventh form; the later family's looks); each row that meets fmt, with fmt's text TOLD by the authors' own Lean function (tested against real Go, not proved from fmt's source: count such statements apart). THE CARD IS WHAT COUNTS. Prove the row's statement (the work); the ties are given (YtmglolpiekbnpaaDoorTie.lean); close each card by the builder's one call (the guide's Derived/Test/ToyasCard.lean, 'card_holds'). Laid BY PROGRAM, IN A SANDBOX (cutbox-door.mjs). By AI agents, Wed Nov 11 2026. No macro, syntax, notation, axiom, sorry.
-/
import Derived.Test.YtmglolpiekbnpaaDoorRows
import GoSem.ClaimSeven
namespace Go.Proofs.YtmglolpiekbnpaaDoor
namespace Rows

/-- THE TIED CARD OF 'laws.FnNumberTexts'. -/
def fnNumberTextsCard : Claim7 := { stood := { row := fnNumberTextsRow, standIns := [], harness := (true, "6c22ba4f9a7d973d865af687b6480aa0fa4814911886dd4b42f3a2ed006f6856"), looks := true }, kinds := [], alts := [], laidByText := true, laidKinds := [.data, .data, .data, .sentinel, .sentinel], laidTests := true, laidLooks := .later }
def FnNumberTextsCardSaid : Prop := Claim7.holds Tryd.pinned (.plain (OpenSpec.ofChange fnNumberTextsSpec)) fnNumberTextsCard

/-- THE SECOND FORM's CARD OF 'laws.FnNumberTexts'. -/
def fnNumberTextsUptoCard : Claim7 := { stood := { row := fnNumberTextsUptoRow, standIns := [], harness := (true, "6c22ba4f9a7d973d865af687b6480aa0fa4814911886dd4b42f3a2ed006f6856"), looks := true }, kinds := [], alts := [], laidByText := true, laidKinds := [.data, .data, .data, .sentinel, .sentinel], laidTests := true, laidLooks := .later }
def FnNumberTextsUptoCardSaid : Prop := Claim7.holds Tryd.pinned (.plain (OpenSpec.upto fnNumberTextsSpec)) fnNumberTextsUptoCard
end Rows
end Go.Proofs.YtmglolpiekbnpaaDoor
