/- What a law needs of a result that is a vector of items alone, or the zero value. -/
import Derived.Test.YteigfhenbmhepaaRows
import Derived.Test.YteigfhenbmhepaaLawItems
namespace Go.Proofs.Yteigfhenbmhepaa
open Go.RowKit
set_option maxRecDepth 100000
set_option linter.unusedVariables false

/-- The zero value, or a vector of items alone that fit. -/
def PlainV (V : Vec) : Prop := V = noV ∨ ∃ k l, V = vecOf k l ∧ (-9223372036854775808 ≤ k ∧ k ≤ 9223372036854775807) ∧ l.length ≤ 40 ∧ ∀ x ∈ l, InB x ∧ x.t.size ≤ 1048576
theorem PlainV.small {V : Vec} (h : PlainV V) : Small 1 V := by
  rcases h with rfl | ⟨k, l, rfl, hk, hl, hx⟩
  · exact small_noV
  · exact small_vecOf (by omega) (fun x h => (hx x h).2)
theorem PlainV.fits {V : Vec} (h : PlainV V) : Fits 1 V := by
  rcases h with rfl | ⟨k, l, rfl, hk, hl, hx⟩
  · exact fits_noV
  · exact fits_vecOf hk (by omega) (fun x h => (hx x h).1)
theorem PlainV.cnt {V : Vec} (h : PlainV V) : 1 + cntM 1 V ≤ 8000000 := by
  rcases h with rfl | ⟨k, l, rfl, hk, hl, hx⟩
  · rw [cnt_noV]; omega
  · rw [cnt_vecOf]; omega
theorem plain_itF {k : Int} {g : Nat → It} {n : Nat} (hk : -9223372036854775808 ≤ k ∧ k ≤ 9223372036854775807) (hn : n ≤ 40) (h : ∀ i, i < n → InB (g i) ∧ (g i).t.size ≤ 1048576) : PlainV (vecOf k (itF g n)) :=
  .inr ⟨k, _, rfl, hk, by rw [itF_len]; exact hn, fun x hx => by obtain ⟨i, hi, rfl⟩ := mem_itF hx; exact h i hi⟩
end Go.Proofs.Yteigfhenbmhepaa
