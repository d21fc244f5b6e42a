/- The reference's differences (the region draws its order). -/
import Derived.Test.YtmglolpiekbnpaaNumSpec
import Derived.RegionTactic
namespace Go.Proofs.Ytmglolpiekbnpaa
open Go.RowKit
set_option linter.unusedVariables false

set_option maxHeartbeats 2000000 in
theorem specSub (x y : It) (w : World) (hx : x.t.size ≤ 9223372036854775807) (hy : y.t.size ≤ 9223372036854775807) :
    Calls Try.prog 22 #[.agg #[.int .i64 x.n, .int .i64 x.d, .string x.t], .agg #[.int .i64 y.n, .int .i64 y.d, .string y.t]] w fun e w' => e = .returned (.agg #[.int .i64 (subI x y).n, .int .i64 (subI x y).d, .string (subI x y).t]) ∧ Below w.heap.size w w' := by
  have X := Lib.hid (show subI x y = addI x (negI y) from rfl)
  have ht : (negI y).t.size ≤ 9223372036854775807 := by rw [negI_t]; decide
  obtain ⟨z, hz⟩ : ∃ z, negI y = z := ⟨_, rfl⟩
  have C := Lib.hid (hz ▸ specNeg y)
  rw [hz] at X ht
  clear hz
  have H := Lib.hid ht
  clear ht
  go_enter Try.func22, Try.ntmps22
  go_wp2
  go_region_with (first
    | (go_at_call 52; refine (C.out _ hy).mono ?_; rintro e w1 ⟨rfl, hb⟩; obtain ⟨hc, hf⟩ := bcell hb; have hz : w.heap.size + 2 < w1.heap.size := (by have := hb.size; simp at this; omega); have B1 := Lib.hid (below_then (below_drew' (below3 w _ _ _)) hb); have G := Lib.hid (blk_below (g := w.heap.size + 2) hb (blk_drew (blk_new _ _ (by simp)))); clear hb)
    | (go_at_call 17; refine (specAdd x z _ hx H.out).mono ?_; rintro e w2 ⟨rfl, hb⟩; obtain ⟨hc2, hf2⟩ := bcell hb; have B2 := Lib.hid (below_then B1.out hb); have G2 := Lib.hid (blk_below hb G.out); clear hb))
  all_goals
    go_wp2
    rw [X.out]
    exact item_ret rfl rfl rfl G2.out ⟨rfl, below_three B2.out (by omega) _ _ _⟩
end Go.Proofs.Ytmglolpiekbnpaa
