/- Lemmas for laws whose result lies in memory. -/
import Derived.Test.YteigfhenbmhepaaRows
import Derived.Test.YteigfhenbmhepaaVecMk5
import Derived.Test.YteigfhenbmhepaaVecClass
import Derived.WalkKit
import Derived.Lib.Hide
namespace Go.Proofs.Yteigfhenbmhepaa
open Go.RowKit
set_option maxRecDepth 100000
set_option linter.unusedVariables false

theorem eqTxB (l : List ByteArray) (a b : Option Addr) (ca cb lo hi lo' hi' : Nat) (w : World) (ha : TextsAt lo hi w a l) (hb : TextsAt lo' hi' w b l) (hn : l.length ≤ 1048576) :
    Calls Try.prog 27 #[.slice a l.length ca, .slice b l.length cb] w fun e w' => e = .returned (.bool true) ∧ Below w.heap.size w w' := by
  refine (eqStrs a b l.length ca cb (txtS l) (txtS l) (max hi hi') w (ha.strs.mono (Nat.le_max_left _ _)) (hb.strs.mono (Nat.le_max_right _ _)) (by omega) (fun _ _ => rfl)).mono ?_
  rintro e w' ⟨rfl, m, rfl⟩
  exact ⟨rfl, below_drewN' (Below.refl _ _) m⟩
theorem sumN_le2 {f g : Nat → Nat} {n : Nat} (h : ∀ i, i < n → f i ≤ 3 * g i + 3) : sumN f n ≤ 3 * sumN g n + 3 * n := by
  induction n with
  | zero => simp [sumN]
  | succ n ih =>
    have h1 := ih (fun i hi => h i (by omega))
    have h2 := h n (by omega)
    simp only [sumN]
    omega
theorem cntM_le : ∀ (d : Nat) (v : Vec), cntM d v ≤ 3 * wV d v
  | 0, v => Nat.zero_le _
  | d + 1, .mk k items parts names cls levels code env => by
    rw [cntM_eq]
    have e : wV (d + 1) (.mk k items parts names cls levels code env) = (items.length + sumF (txtI items) items.length) + (parts.length + sumN (fun i => wV d (parts.getD i noV)) parts.length) + (names.length + sumF (txtS names) names.length) + (cls.length + sumF (txtS cls) cls.length) + (levels.length + sumF (txtS levels) levels.length) := rfl
    rw [e]
    have h : cntP d parts parts.length ≤ 3 * sumN (fun i => wV d (parts.getD i noV)) parts.length + 3 * parts.length := sumN_le2 (fun i _ => by have := cntM_le d (parts.getD i noV); omega)
    omega
theorem clsV_len (v : Vec) : (clsV v).length ≤ 3 := by
  by_cases h : ValidV v
  · obtain ⟨k, items, parts, names, cls, levels, code, env⟩ := v
    by_cases hc : 0 < cls.length
    · rw [cls_own h hc]; exact (FlatOk.h_cls h.1.flat).1
    · rw [cls_name h (by omega)]; simp
  · rw [cls_no h]; simp
theorem OwnTxs.texts {w : World} {a : Option Addr} {l : List ByteArray} {F : List Nat} {hi : Nat} (h : OwnTxs w a l F) (hF : ∀ b ∈ F, b < hi) : TextsAt 0 hi w a l := h.at_ (fun b hb => ⟨Nat.zero_le _, hF b hb⟩)
end Go.Proofs.Yteigfhenbmhepaa
