/- The texts of numbers are read back; powers and comparisons: what the law FnNumberTexts asks. -/
import Derived.Test.YtmglolpiekbnpaaDoorNumPrsMath
import Derived.Test.YtmglolpiekbnpaaDoorNumLaws
import Derived.Test.YtmglolpiekbnpaaDoorNumCmp
import Derived.Test.YtmglolpiekbnpaaDoorHeld
namespace Go.Proofs.YtmglolpiekbnpaaDoor
set_option maxRecDepth 100000
open Go.RowKit
set_option linter.unusedVariables false

theorem txt_read (x : It) : (txI x = ⟨#[]⟩ ∧ prsI (txI x) = (noI, false)) ∨ (txI x ≠ ⟨#[]⟩ ∧ prsI (txI x) = (x, true)) := by
  by_cases z : x.n = 0 ∧ x.d = 0 ∧ x.t.size = 0
  · right
    obtain ⟨n, d, t⟩ := x
    simp only at z
    obtain ⟨rfl, rfl, ht⟩ := z
    obtain rfl := empty_of_size ht
    rw [tx_no rfl rfl]
    exact ⟨by intro e; have := congrArg ByteArray.size e; revert this; decide, by rw [prs_na rfl]; rfl⟩
  · cases h : isN x
    · left
      have e := tx_bad h z
      rw [e]
      exact ⟨rfl, prs_bad (n := 0) (d := 1) (b := false) (by decide) (by rw [show (⟨#[]⟩ : ByteArray).data.toList = [] from rfl, prsF_none rfl, pVal_nil]) (Or.inl rfl)⟩
    · right
      have hp := prs_text h rfl
      have hne : (txI x).data.toList ≠ [78, 65] := by
        intro e
        have k : pVal [78, 65] = (0, false) := pNo_byte (by decide)
        rw [e, prsF_none (by decide), k] at hp
        simp at hp
      have hf : fr x.n x.d = x := It.ext' rfl rfl (isN_iff.1 h).1.symm
      refine ⟨?_, ?_⟩
      · intro e
        rw [e, show (⟨#[]⟩ : ByteArray).data.toList = [] from rfl, prsF_none rfl, pVal_nil] at hp
        simp at hp
      · rw [prs_good hne hp (by rw [hf]), hf]
theorem txt_small (x : It) : (txI x).size ≤ 1048576 := by
  unfold txI
  split
  · decide
  · split
    · rename_i h
      have k := isN_iff.1 h
      have a := itoa_small x.n (by omega) (by omega)
      have b := itoa_small x.d (by omega) (by omega)
      split
      · omega
      · rw [ByteArray.size_append, ByteArray.size_append]
        have c : (⟨#[47]⟩ : ByteArray).size = 1 := rfl
        omega
    · decide
theorem split_pow {q r e : It} (f : 0 ≤ e.n → q.d ≠ 0 → r.d ≠ 0 → q = r) : (q.d = 0) ∨ (¬ q.d = 0 ∧ r.d = 0) ∨ (¬ q.d = 0 ∧ ¬ r.d = 0 ∧ e.n < 0) ∨ (¬ q.d = 0 ∧ ¬ r.d = 0 ∧ 0 ≤ e.n ∧ q = r) := by
  by_cases h1 : q.d = 0
  · exact .inl h1
  · by_cases h2 : r.d = 0
    · exact .inr (.inl ⟨h1, h2⟩)
    · by_cases h3 : e.n < 0
      · exact .inr (.inr (.inl ⟨h1, h2, h3⟩))
      · exact .inr (.inr (.inr ⟨h1, h2, by omega, f (by omega) h1 h2⟩))
theorem cmp_in (x y : It) : -1 ≤ cmpI x y ∧ cmpI x y ≤ 2 := by
  unfold cmpI
  repeat' split
  all_goals decide
theorem split_cmp {c d : Int} (h : (c = 2 ∧ d = 2) ∨ c = -d) : (c = 2 ∧ d = 2) ∨ (c = 2 ∧ ¬ d = 2 ∧ c = -d) ∨ (¬ c = 2 ∧ c = -d) := by
  rcases h with h | h
  · exact .inl h
  · by_cases h1 : c = 2
    · by_cases h2 : d = 2
      · exact .inl ⟨h1, h2⟩
      · exact .inr (.inl ⟨h1, h2, h⟩)
    · exact .inr (.inr ⟨h1, h⟩)
theorem held_two {w v : World} {L : List (Nat × It)} {x y : It} (h : Held w v L) : Held w ((v.alloc (.cells #[.int .i64 x.n, .int .i64 x.d, .string x.t] 25)).alloc (.cells #[.int .i64 y.n, .int .i64 y.d, .string y.t] 25)) ((v.heap.size + 1, y) :: (v.heap.size, x) :: L) := by
  have k := held_new (z := y) (held_new (z := x) h)
  simpa using k
set_option maxHeartbeats 1000000 in
theorem numOne (w : World) : Calls Tryd.prog 14 #[.int .i64 1] w fun e w' => e = .returned (.agg #[.int .i64 oneI.n, .int .i64 oneI.d, .string oneI.t]) ∧ Below w.heap.size w w' := by
  go_enter Tryd.func14, Tryd.ntmps14
  go_wp2
  exact item_ret0 rfl rfl rfl (blk_new _ _ rfl) ⟨rfl, below1 w _⟩
end Go.Proofs.YtmglolpiekbnpaaDoor
