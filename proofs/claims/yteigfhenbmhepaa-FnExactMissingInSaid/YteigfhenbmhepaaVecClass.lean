/- The implicit class of a vector, both sides. -/
import Derived.Test.YteigfhenbmhepaaRows
import Derived.Test.YteigfhenbmhepaaVecCopy
import Derived.Test.YteigfhenbmhepaaVecCntI
import Derived.WalkKit
import Derived.OwnWalk
import Derived.Lib.Hide
namespace Go.Proofs.Yteigfhenbmhepaa
open Go.RowKit
set_option maxRecDepth 100000
set_option linter.unusedVariables false

def nameB (k : Int) : ByteArray := if k = 0 then ⟨#[78, 85, 76, 76]⟩ else if k = 1 then ⟨#[108, 111, 103, 105, 99, 97, 108]⟩ else if k = 2 then ⟨#[110, 117, 109, 101, 114, 105, 99]⟩ else if k = 3 then ⟨#[99, 104, 97, 114, 97, 99, 116, 101, 114]⟩ else if k = 4 then ⟨#[108, 105, 115, 116]⟩ else ⟨#[102, 117, 110, 99, 116, 105, 111, 110]⟩
noncomputable def clsV (v : Vec) : List ByteArray := match bB (ValidV v), v with
  | true, .mk k _ _ _ cls _ _ _ => if cls.length = 0 then [nameB k] else cls
  | false, _ => []
theorem cls_no {v : Vec} (h : ¬ ValidV v) : clsV v = [] := by unfold clsV; rw [bB_no h]
theorem cls_own {k : Int} {items : List It} {parts : List Vec} {names cls levels : List ByteArray} {code env : Int} (h : ValidV (.mk k items parts names cls levels code env)) (hc : 0 < cls.length) : clsV (.mk k items parts names cls levels code env) = cls := by
  unfold clsV; rw [bB_yes h]; simp only; rw [if_neg (by omega)]
theorem cls_name {k : Int} {items : List It} {parts : List Vec} {names cls levels : List ByteArray} {code env : Int} (h : ValidV (.mk k items parts names cls levels code env)) (hc : cls.length = 0) : clsV (.mk k items parts names cls levels code env) = [nameB k] := by
  unfold clsV; rw [bB_yes h]; simp only; rw [if_pos hc]
theorem one_own {w : World} {g : Nat} {s : ByteArray} {fr : Nat × Nat} (h : w.heap[g]? = some (.cells #[.string s] 9 (0, 0))) : OwnTxs w (some ⟨g, 0, none⟩) [s] [g] :=
  .inr ⟨g, #[.string s], rfl, rfl, h, Nat.le_refl _, fun i hi => by
    have : i = 0 := by simp at hi; omega
    subst this; rfl⟩
/-- What both sides answer: a list of texts in a block of its own. -/
def ClassAns (v : Vec) (w : World) (e : Ending) (w' : World) : Prop := ∃ a c F, e = .returned (.slice a (clsV v).length c) ∧ OwnTxs w' a (clsV v) F ∧ F.Nodup ∧ (∀ b ∈ F, w.heap.size ≤ b ∧ b < w'.heap.size) ∧ Below w.heap.size w w'
end Go.Proofs.Yteigfhenbmhepaa
