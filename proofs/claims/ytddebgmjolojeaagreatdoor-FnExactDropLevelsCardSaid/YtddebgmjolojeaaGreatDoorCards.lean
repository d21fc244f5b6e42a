/-
  DERIVED. GIVEN WITH THE SEED: THE CARDS: each row of YtddebgmjolojeaaGreatDoorRows.lean that lists a variable, with what it lists TIED to the program's text (the seventh form; the later family's looks); each row that meets fmt, with fmt's text TOLD by the authors' own Lean function (tested against real Go, not proved from fmt's source: count such statements apart). THE CARD IS WHAT COUNTS. Prove the row's statement (the work); the ties are given (YtddebgmjolojeaaGreatDoorTie.lean); close each card by the builder's one call (the guide's Derived/Test/ToyasCard.lean, 'card_holds'). Laid BY PROGRAM, IN A SANDBOX (cutbox-door.mjs). By AI agents, Wed Nov 11 2026. No macro, syntax, notation, axiom, sorry.
-/
import Derived.Test.YtddebgmjolojeaaGreatDoorRows
import GoSem.ClaimSeven
namespace Go.Proofs.YtddebgmjolojeaaGreatDoor
namespace Rows

/-- THE TIED CARD OF 'laws.FnExactMakeFactorWith'. -/
def fnExactMakeFactorWithCard : Claim7 := { stood := { row := fnExactMakeFactorWithRow, standIns := [], harness := (true, "04dc8003cb2437f297de38a9f696571dd9dab78bcde6bd5afa5db90fada32953"), looks := false }, kinds := [], alts := [], laidByText := true, laidKinds := [.data, .data, .data], laidTests := true, laidLooks := .later }
def FnExactMakeFactorWithCardSaid : Prop := Claim7.holds Tryz.pinned (.plain (OpenSpec.ofChange fnExactMakeFactorWithSpec)) fnExactMakeFactorWithCard

/-- THE TIED CARD OF 'laws.FnExactDropLevels'. -/
def fnExactDropLevelsCard : Claim7 := { stood := { row := fnExactDropLevelsRow, standIns := [], harness := (true, "04dc8003cb2437f297de38a9f696571dd9dab78bcde6bd5afa5db90fada32953"), looks := false }, kinds := [], alts := [], laidByText := true, laidKinds := [.data, .data, .data], laidTests := true, laidLooks := .later }
def FnExactDropLevelsCardSaid : Prop := Claim7.holds Tryz.pinned (.plain (OpenSpec.ofChange fnExactDropLevelsSpec)) fnExactDropLevelsCard

/-- THE SECOND FORM's CARD OF 'laws.FnExactMakeFactorWith'. -/
def fnExactMakeFactorWithUptoCard : Claim7 := { stood := { row := fnExactMakeFactorWithUptoRow, standIns := [], harness := (true, "04dc8003cb2437f297de38a9f696571dd9dab78bcde6bd5afa5db90fada32953"), looks := false }, kinds := [], alts := [], laidByText := true, laidKinds := [.data, .data, .data], laidTests := true, laidLooks := .later }
def FnExactMakeFactorWithUptoCardSaid : Prop := Claim7.holds Tryz.pinned (.plain (OpenSpec.upto fnExactMakeFactorWithSpec)) fnExactMakeFactorWithUptoCard

/-- THE SECOND FORM's CARD OF 'laws.FnExactDropLevels'. -/
def fnExactDropLevelsUptoCard : Claim7 := { stood := { row := fnExactDropLevelsUptoRow, standIns := [], harness := (true, "04dc8003cb2437f297de38a9f696571dd9dab78bcde6bd5afa5db90fada32953"), looks := false }, kinds := [], alts := [], laidByText := true, laidKinds := [.data, .data, .data], laidTests := true, laidLooks := .later }
def FnExactDropLevelsUptoCardSaid : Prop := Claim7.holds Tryz.pinned (.plain (OpenSpec.upto fnExactDropLevelsSpec)) fnExactDropLevelsUptoCard
end Rows
end Go.Proofs.YtddebgmjolojeaaGreatDoor
