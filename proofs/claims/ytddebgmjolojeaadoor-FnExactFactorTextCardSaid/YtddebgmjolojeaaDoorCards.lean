/-
  DERIVED. GIVEN WITH THE SEED: THE CARDS: each row of YtddebgmjolojeaaDoorRows.lean that lists a variable, with what it lists TIED to the program's text (the seventh form; the later family's looks); each row that meets fmt, with fmt's text TOLD by the authors' own Lean function (tested against real Go, not proved from fmt's source: count such statements apart). THE CARD IS WHAT COUNTS. Prove the row's statement (the work); the ties are given (YtddebgmjolojeaaDoorTie.lean); close each card by the builder's one call (the guide's Derived/Test/ToyasCard.lean, 'card_holds'). Laid BY PROGRAM, IN A SANDBOX (cutbox-door.mjs). By AI agents, Wed Nov 11 2026. No macro, syntax, notation, axiom, sorry.
-/
import Derived.Test.YtddebgmjolojeaaDoorRows
import GoSem.ClaimSeven
namespace Go.Proofs.YtddebgmjolojeaaDoor
namespace Rows

/-- THE TIED CARD OF 'laws.FnExactFactorText'. -/
def fnExactFactorTextCard : Claim7 := { stood := { row := fnExactFactorTextRow, standIns := [], harness := (true, "03b21a9481b9efaac17ab38f34c0ef89a803fe1d0a33bda854cc9d273557048d"), looks := false }, kinds := [], alts := [], laidByText := true, laidKinds := [.data, .data, .data], laidTests := true, laidLooks := .later }
def FnExactFactorTextCardSaid : Prop := Claim7.holds Tryd.pinned (.plain (OpenSpec.ofChange fnExactFactorTextSpec)) fnExactFactorTextCard

/-- THE TIED CARD OF 'laws.FnExactCombineVectors'. -/
def fnExactCombineVectorsCard : Claim7 := { stood := { row := fnExactCombineVectorsRow, standIns := [], harness := (true, "03b21a9481b9efaac17ab38f34c0ef89a803fe1d0a33bda854cc9d273557048d"), looks := false }, kinds := [], alts := [], laidByText := true, laidKinds := [.data, .data, .data], laidTests := true, laidLooks := .later }
def FnExactCombineVectorsCardSaid : Prop := Claim7.holds Tryd.pinned (.plain (OpenSpec.ofChange fnExactCombineVectorsSpec)) fnExactCombineVectorsCard

/-- THE SECOND FORM's CARD OF 'laws.FnExactFactorText'. -/
def fnExactFactorTextUptoCard : Claim7 := { stood := { row := fnExactFactorTextUptoRow, standIns := [], harness := (true, "03b21a9481b9efaac17ab38f34c0ef89a803fe1d0a33bda854cc9d273557048d"), looks := false }, kinds := [], alts := [], laidByText := true, laidKinds := [.data, .data, .data], laidTests := true, laidLooks := .later }
def FnExactFactorTextUptoCardSaid : Prop := Claim7.holds Tryd.pinned (.plain (OpenSpec.upto fnExactFactorTextSpec)) fnExactFactorTextUptoCard

/-- THE SECOND FORM's CARD OF 'laws.FnExactCombineVectors'. -/
def fnExactCombineVectorsUptoCard : Claim7 := { stood := { row := fnExactCombineVectorsUptoRow, standIns := [], harness := (true, "03b21a9481b9efaac17ab38f34c0ef89a803fe1d0a33bda854cc9d273557048d"), looks := false }, kinds := [], alts := [], laidByText := true, laidKinds := [.data, .data, .data], laidTests := true, laidLooks := .later }
def FnExactCombineVectorsUptoCardSaid : Prop := Claim7.holds Tryd.pinned (.plain (OpenSpec.upto fnExactCombineVectorsSpec)) fnExactCombineVectorsUptoCard
end Rows
end Go.Proofs.YtddebgmjolojeaaDoor
