/-
  DERIVED. GIVEN WITH THE SEED: THE CARDS: each row of YtjpdnabfpiengaaDoorRows.lean that lists a variable, with what it lists TIED to the program's text (the seventh form; the later family's looks); each row that meets fmt, with fmt's text TOLD by the authors' own Lean function (tested against real Go, not proved from fmt's source: count such statements apart). THE CARD IS WHAT COUNTS. Prove the row's statement (the work); the ties are given (YtjpdnabfpiengaaDoorTie.lean); close each card by the builder's one call (the guide's Derived/Test/ToyasCard.lean, 'card_holds'). Laid BY PROGRAM, IN A SANDBOX (cutbox-door.mjs). By AI agents, Wed Nov 11 2026. No macro, syntax, notation, axiom, sorry.
-/
import Derived.Test.YtjpdnabfpiengaaDoorRows
import GoSem.ClaimSeven
namespace Go.Proofs.YtjpdnabfpiengaaDoor
namespace Rows

/-- THE TIED CARD OF 'laws.FnExactCountBytes'. -/
def fnExactCountBytesCard : Claim7 := { stood := { row := fnExactCountBytesRow, standIns := [], harness := (true, "145ea2804a3ceb1e75d6a9283a8f9a2214ff45dcc174a106fb938f3a53c8f17d"), looks := false }, kinds := [], alts := [], laidByText := true, laidKinds := [.data, .data, .data], laidTests := true, laidLooks := .later }
def FnExactCountBytesCardSaid : Prop := Claim7.holds Tryd.pinned (.plain (OpenSpec.ofChange fnExactCountBytesSpec)) fnExactCountBytesCard

/-- THE TIED CARD OF 'laws.FnExactCoerceVector'. -/
def fnExactCoerceVectorCard : Claim7 := { stood := { row := fnExactCoerceVectorRow, standIns := [], harness := (true, "145ea2804a3ceb1e75d6a9283a8f9a2214ff45dcc174a106fb938f3a53c8f17d"), looks := false }, kinds := [], alts := [], laidByText := true, laidKinds := [.data, .data, .data], laidTests := true, laidLooks := .later }
def FnExactCoerceVectorCardSaid : Prop := Claim7.holds Tryd.pinned (.plain (OpenSpec.ofChange fnExactCoerceVectorSpec)) fnExactCoerceVectorCard

/-- THE TIED CARD OF 'laws.FnExactCombineVectors'. -/
def fnExactCombineVectorsCard : Claim7 := { stood := { row := fnExactCombineVectorsRow, standIns := [], harness := (true, "145ea2804a3ceb1e75d6a9283a8f9a2214ff45dcc174a106fb938f3a53c8f17d"), looks := false }, kinds := [], alts := [], laidByText := true, laidKinds := [.data, .data, .data], laidTests := true, laidLooks := .later }
def FnExactCombineVectorsCardSaid : Prop := Claim7.holds Tryd.pinned (.plain (OpenSpec.ofChange fnExactCombineVectorsSpec)) fnExactCombineVectorsCard

/-- THE TIED CARD OF 'laws.FnExactChooseVector'. -/
def fnExactChooseVectorCard : Claim7 := { stood := { row := fnExactChooseVectorRow, standIns := [], harness := (true, "145ea2804a3ceb1e75d6a9283a8f9a2214ff45dcc174a106fb938f3a53c8f17d"), looks := false }, kinds := [], alts := [], laidByText := true, laidKinds := [.data, .data, .data], laidTests := true, laidLooks := .later }
def FnExactChooseVectorCardSaid : Prop := Claim7.holds Tryd.pinned (.plain (OpenSpec.ofChange fnExactChooseVectorSpec)) fnExactChooseVectorCard

/-- THE SECOND FORM's CARD OF 'laws.FnExactCountBytes'. -/
def fnExactCountBytesUptoCard : Claim7 := { stood := { row := fnExactCountBytesUptoRow, standIns := [], harness := (true, "145ea2804a3ceb1e75d6a9283a8f9a2214ff45dcc174a106fb938f3a53c8f17d"), looks := false }, kinds := [], alts := [], laidByText := true, laidKinds := [.data, .data, .data], laidTests := true, laidLooks := .later }
def FnExactCountBytesUptoCardSaid : Prop := Claim7.holds Tryd.pinned (.plain (OpenSpec.upto fnExactCountBytesSpec)) fnExactCountBytesUptoCard

/-- THE SECOND FORM's CARD OF 'laws.FnExactCoerceVector'. -/
def fnExactCoerceVectorUptoCard : Claim7 := { stood := { row := fnExactCoerceVectorUptoRow, standIns := [], harness := (true, "145ea2804a3ceb1e75d6a9283a8f9a2214ff45dcc174a106fb938f3a53c8f17d"), looks := false }, kinds := [], alts := [], laidByText := true, laidKinds := [.data, .data, .data], laidTests := true, laidLooks := .later }
def FnExactCoerceVectorUptoCardSaid : Prop := Claim7.holds Tryd.pinned (.plain (OpenSpec.upto fnExactCoerceVectorSpec)) fnExactCoerceVectorUptoCard

/-- THE SECOND FORM's CARD OF 'laws.FnExactCombineVectors'. -/
def fnExactCombineVectorsUptoCard : Claim7 := { stood := { row := fnExactCombineVectorsUptoRow, standIns := [], harness := (true, "145ea2804a3ceb1e75d6a9283a8f9a2214ff45dcc174a106fb938f3a53c8f17d"), looks := false }, kinds := [], alts := [], laidByText := true, laidKinds := [.data, .data, .data], laidTests := true, laidLooks := .later }
def FnExactCombineVectorsUptoCardSaid : Prop := Claim7.holds Tryd.pinned (.plain (OpenSpec.upto fnExactCombineVectorsSpec)) fnExactCombineVectorsUptoCard

/-- THE SECOND FORM's CARD OF 'laws.FnExactChooseVector'. -/
def fnExactChooseVectorUptoCard : Claim7 := { stood := { row := fnExactChooseVectorUptoRow, standIns := [], harness := (true, "145ea2804a3ceb1e75d6a9283a8f9a2214ff45dcc174a106fb938f3a53c8f17d"), looks := false }, kinds := [], alts := [], laidByText := true, laidKinds := [.data, .data, .data], laidTests := true, laidLooks := .later }
def FnExactChooseVectorUptoCardSaid : Prop := Claim7.holds Tryd.pinned (.plain (OpenSpec.upto fnExactChooseVectorSpec)) fnExactChooseVectorUptoCard
end Rows
end Go.Proofs.YtjpdnabfpiengaaDoor
