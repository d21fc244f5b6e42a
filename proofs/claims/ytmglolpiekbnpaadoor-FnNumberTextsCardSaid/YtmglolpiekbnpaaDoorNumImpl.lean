/- The program's arithmetic, each function against its plain one. -/
import Derived.Test.YtmglolpiekbnpaaDoorRows
import Derived.Test.YtmglolpiekbnpaaDoorNumMath
import Derived.Test.YtmglolpiekbnpaaDoorNumKit
import Derived.Test.YtmglolpiekbnpaaDoorNumMake
import Derived.Test.YtmglolpiekbnpaaDoorNumImplMake
import Derived.WalkKit
import Derived.WalkSpells
import Derived.WalkLawsBesides
import Derived.IntWalk
import Derived.Lib.Hide
import Derived.Deep.RegionWith
import Derived.StillTailTactics
namespace Go.Proofs.YtmglolpiekbnpaaDoor
set_option maxRecDepth 100000
open Go.RowKit
set_option linter.unusedVariables false

set_option maxHeartbeats 1000000 in
theorem areAny (x y : It) (w : World) (hx : x.t.size ≤ 9223372036854775807) (hy : y.t.size ≤ 9223372036854775807) :
    Calls Tryd.prog 28 #[.agg #[.int .i64 x.n, .int .i64 x.d, .string x.t], .agg #[.int .i64 y.n, .int .i64 y.d, .string y.t]] w fun e w' => e = .returned (.bool (both x y)) ∧ Below w.heap.size w w' := by
  cases h : isN x
  · have X := Lib.hid (show both x y = false by unfold both; rw [h]; rfl)
    have C := Lib.hid (implNumNo x.n x.d x.t)
    have h' : isN ⟨x.n, x.d, x.t⟩ = false := h
    have N := Lib.hid h'
    clear h h'
    go_enter Tryd.func28, Tryd.ntmps28
    go_wp2_with fail
    refine (C.out _ hx N.out).mono ?_
    rintro e w1 ⟨rfl, hb⟩
    have B1 := Lib.hid (below_then (below2 w _ _) hb)
    clear hb
    go_wp2
    go_ret
    exact ⟨ret_b X.out.symm, B1.out⟩
  · have X := Lib.hid (show both x y = isN y by unfold both; rw [h]; rfl)
    have C := Lib.hid (implNumYes x.n x.d x.t)
    have h' : isN ⟨x.n, x.d, x.t⟩ = true := h
    have N := Lib.hid h'
    clear h h'
    go_enter Tryd.func28, Tryd.ntmps28
    go_wp2_with fail
    refine (C.out _ hx N.out).mono ?_
    rintro e w1 ⟨rfl, hb⟩
    obtain ⟨hc, hf⟩ := bcell hb
    have B1 := Lib.hid (below_then (below2 w _ _) hb)
    clear hb
    go_wp2_with fail
    refine (implIsNum y.n y.d y.t _ hy).mono ?_
    rintro e w2 ⟨rfl, hb⟩
    have B2 := Lib.hid (below_then B1.out hb)
    clear hb
    go_wp2
    go_ret
    exact ⟨ret_b X.out.symm, B2.out⟩
theorem areYes (x y : It) (w : World) (hx : x.t.size ≤ 9223372036854775807) (hy : y.t.size ≤ 9223372036854775807) (h : both x y = true) :
    Calls Tryd.prog 28 #[.agg #[.int .i64 x.n, .int .i64 x.d, .string x.t], .agg #[.int .i64 y.n, .int .i64 y.d, .string y.t]] w fun e w' => e = .returned (.bool true) ∧ Below w.heap.size w w' := by
  have := areAny x y w hx hy
  rwa [h] at this
theorem areNo (x y : It) (w : World) (hx : x.t.size ≤ 9223372036854775807) (hy : y.t.size ≤ 9223372036854775807) (h : both x y = false) :
    Calls Tryd.prog 28 #[.agg #[.int .i64 x.n, .int .i64 x.d, .string x.t], .agg #[.int .i64 y.n, .int .i64 y.d, .string y.t]] w fun e w' => e = .returned (.bool false) ∧ Below w.heap.size w w' := by
  have := areAny x y w hx hy
  rwa [h] at this

set_option maxHeartbeats 1000000 in
theorem fracNumber (p q : Int) (w : World) (h : -9223372036854775808 ≤ p ∧ p ≤ 9223372036854775807) (h' : -9223372036854775808 ≤ q ∧ q ≤ 9223372036854775807) :
    Calls Tryd.prog 44 #[.agg #[.int .i64 p, .int .i64 q]] w fun e w' => e = .returned (.agg #[.int .i64 (mkI p q).n, .int .i64 (mkI p q).d, .string ⟨#[]⟩]) ∧ Below w.heap.size w w' := by
  go_enter Tryd.func44, Tryd.ntmps44
  go_wp2_with fail
  refine (implMake p q _ h h').mono ?_
  rintro e w1 ⟨rfl, hb⟩
  obtain ⟨hc, hf⟩ := bcell hb
  have B1 := Lib.hid (below_then (below2 w _ _) hb)
  have G := Lib.hid (blk_below (g := w.heap.size + 1) hb (blk_new _ _ (by simp)))
  clear hb
  go_wp2
  exact item_ret rfl rfl rfl G.out ⟨rfl, below_three B1.out (by omega) _ _ _⟩

set_option maxHeartbeats 1000000 in
theorem implMul (x y : It) (w : World) (hx : x.t.size ≤ 9223372036854775807) (hy : y.t.size ≤ 9223372036854775807) :
    Calls Tryd.prog 29 #[.agg #[.int .i64 x.n, .int .i64 x.d, .string x.t], .agg #[.int .i64 y.n, .int .i64 y.d, .string y.t]] w fun e w' => e = .returned (.agg #[.int .i64 (mulI x y).n, .int .i64 (mulI x y).d, .string (mulI x y).t]) ∧ Below w.heap.size w w' := by
  cases h : both x y
  · have X := Lib.hid (show mulI x y = noI by unfold mulI; simp [h])
    have N := Lib.hid h
    clear h
    go_enter Tryd.func29, Tryd.ntmps29
    go_wp2_with fail
    refine (areNo x y _ hx hy N.out).mono ?_
    rintro e w1 ⟨rfl, hb⟩
    obtain ⟨hc, hf⟩ := bcell hb
    have B1 := Lib.hid (below_then (below3 w _ _ _) hb)
    have G := Lib.hid (blk_below (g := w.heap.size + 2) hb (blk_new _ _ (by simp)))
    clear hb
    go_wp2
    rw [X.out]
    exact item_ret rfl rfl rfl G.out ⟨rfl, below_three B1.out (by omega) _ _ _⟩
  · have P := Lib.hid (parts_in (both_iff.1 h).1 (both_iff.1 h).2)
    have X := Lib.hid (mul_mk h)
    have XT := Lib.hid (mulI_t x y)
    have N := Lib.hid h
    have X1 := isN_iff.1 (both_iff.1 h).1
    have Y1 := isN_iff.1 (both_iff.1 h).2
    clear h
    have a0 : -999999998000000001 ≤ x.n * y.n := by have := P.out; omega
    have a1 : x.n * y.n ≤ 999999998000000001 := by have := P.out; omega
    have c0 : -999999998000000001 ≤ x.d * y.d := by have := P.out; omega
    have c1 : x.d * y.d ≤ 999999998000000001 := by have := P.out; omega

    clear X1 Y1
    go_enter Tryd.func29, Tryd.ntmps29
    go_wp2_with fail
    refine (areYes x y _ hx hy N.out).mono ?_
    rintro e w1 ⟨rfl, hb⟩
    obtain ⟨hc, hf⟩ := bcell hb
    have B1 := Lib.hid (below_then (below3 w _ _ _) hb)
    have G := Lib.hid (blk_below (g := w.heap.size + 2) hb (blk_new _ _ (by simp)))
    have hz : w.heap.size + 2 < w1.heap.size := by have := hb.size; simp at this; omega
    clear hb
    go_wp2_with fail
    refine (fracNumber (x.n * y.n) (x.d * y.d) _ ⟨by omega, by omega⟩ ⟨by omega, by omega⟩).mono ?_
    rintro e w2 ⟨rfl, hb⟩
    obtain ⟨hc2, hf2⟩ := bcell hb
    have B2 := Lib.hid (below_then B1.out hb)
    have G2 := Lib.hid (blk_below hb G.out)
    clear hb
    rw [X.out]
    go_wp2
    rw [XT.out]
    exact item_ret rfl rfl rfl G2.out ⟨rfl, below_three B2.out (by omega) _ _ _⟩
end Go.Proofs.YtmglolpiekbnpaaDoor
