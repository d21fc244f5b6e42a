/- Which vectors are factors. -/
import Derived.Test.YtddebgmjolojeaaRows
import Derived.Test.YtddebgmjolojeaaVecMath
namespace Go.Proofs.Ytddebgmjolojeaa
open Go.RowKit
set_option maxRecDepth 100000
set_option linter.unusedVariables false

def facB : ByteArray := ⟨#[102, 97, 99, 116, 111, 114]⟩
/-- A valid vector with levels whose only class is this one. -/
def FacV (v : Vec) : Prop := ValidV v ∧ match v with | .mk _ _ _ _ cls levels _ _ => ¬ levels.length = 0 ∧ cls = [facB]
theorem facV_not {v : Vec} (h : ¬ ValidV v) : ¬ FacV v := fun e => h e.1
theorem facV_iff {kk : Int} {items : List It} {parts : List Vec} {names cls levels : List ByteArray} {code env : Int} : FacV (.mk kk items parts names cls levels code env) ↔ (ValidV (.mk kk items parts names cls levels code env) ∧ ¬ levels.length = 0 ∧ cls = [facB]) := Iff.rfl
theorem cls_one {cls : List ByteArray} {s : ByteArray} : cls = [s] ↔ (cls.length = 1 ∧ cls.getD 0 ⟨#[]⟩ = s) := by
  constructor
  · rintro rfl; exact ⟨rfl, rfl⟩
  · rintro ⟨h1, h2⟩
    obtain ⟨x, rfl⟩ := List.length_eq_one_iff.1 h1
    have : x = s := h2
    rw [this]
end Go.Proofs.Ytddebgmjolojeaa
