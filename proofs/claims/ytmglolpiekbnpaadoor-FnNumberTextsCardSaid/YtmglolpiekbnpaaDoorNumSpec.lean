/- The reference's arithmetic, each function against its plain one. -/
import Derived.Test.YtmglolpiekbnpaaDoorRows
import Derived.Test.YtmglolpiekbnpaaDoorNumMath
import Derived.Test.YtmglolpiekbnpaaDoorNumKit
import Derived.Test.YtmglolpiekbnpaaDoorNumMake
import Derived.Test.YtmglolpiekbnpaaDoorNumSpecMake
import Derived.WalkKit
import Derived.WalkSpells
import Derived.WalkLawsBesides
import Derived.IntWalk
import Derived.Lib.Hide
import Derived.Deep.RegionWith
namespace Go.Proofs.YtmglolpiekbnpaaDoor
set_option maxRecDepth 100000
open Go.RowKit
set_option linter.unusedVariables false
theorem floorS_t (x : It) : (floorI x).t = ⟨#[]⟩ := by unfold floorI; split; exact ofQ_t _; rfl
theorem roundS_t (x : It) : (roundI x).t = ⟨#[]⟩ := by unfold roundI; split; exact ofQ_t _; rfl
theorem quoS_t (x y : It) : (quoI x y).t = ⟨#[]⟩ := by unfold quoI; split; exact ofQ_t _; rfl
theorem remS_t (x y : It) : (remI x y).t = ⟨#[]⟩ := by unfold remI; split; exact ofQ_t _; rfl
theorem not_both1 {x y : It} (h : isN x = false) : both x y = false := by unfold both; rw [h]; rfl
theorem not_both2 {x y : It} (h : isN y = false) : both x y = false := by unfold both; rw [h]; simp
theorem add_no {x y : It} (h : both x y = false) : addI x y = noI := by unfold addI; simp [h]
theorem mul_no {x y : It} (h : both x y = false) : mulI x y = noI := by unfold mulI; simp [h]
theorem div_no {x y : It} (h : both x y = false) : divI x y = noI := by unfold divI; simp [h]
theorem quo_no {x y : It} (h : both x y = false) : quoI x y = noI := by unfold quoI; simp [h]
theorem rem_no {x y : It} (h : both x y = false) : remI x y = noI := by unfold remI; simp [h]
theorem quo_no0 {x y : It} (h : y.n = 0) : quoI x y = noI := by unfold quoI; simp [h]
theorem rem_no0 {x y : It} (h : y.n = 0) : remI x y = noI := by unfold remI; simp [h]

set_option maxHeartbeats 2000000 in
theorem specAdd (x y : It) (w : World) (hx : x.t.size ≤ 9223372036854775807) (hy : y.t.size ≤ 9223372036854775807) :
    Calls Tryd.prog 13 #[.agg #[.int .i64 x.n, .int .i64 x.d, .string x.t], .agg #[.int .i64 y.n, .int .i64 y.d, .string y.t]] w fun e w' => e = .returned (.agg #[.int .i64 (addI x y).n, .int .i64 (addI x y).d, .string (addI x y).t]) ∧ Below w.heap.size w w' := by
  cases h : isN x
  · have X := Lib.hid (add_no (y := y) (not_both1 h))
    have NX := Lib.hid (show isN ⟨x.n, x.d, x.t⟩ = false from h)
    clear h
    go_enter Tryd.func13, Tryd.ntmps13
    go_wp2_with fail
    refine (specNumNo x.n x.d x.t _ hx NX.out).mono ?_
    rintro e w1 ⟨rfl, hb⟩
    obtain ⟨hc, hf⟩ := bcell hb
    have W1 := Lib.hid hb
    have B1 := Lib.hid (below_then (below3 w _ _ _) hb)
    have G1 := Lib.hid (blk_below (g := w.heap.size + 2) hb (blk_new _ _ (by simp)))
    have hz : w.heap.size + 2 < w1.heap.size := by have := hb.size; simp at this; omega
    clear hb
    go_wp2
    rw [X.out]
    exact item_ret rfl rfl rfl G1.out ⟨rfl, below_three B1.out (by omega) _ _ _⟩
  · cases k : isN y
    · have X := Lib.hid (add_no (x := x) (not_both2 k))
      have NX := Lib.hid (show isN ⟨x.n, x.d, x.t⟩ = true from h)
      have NY := Lib.hid (show isN ⟨y.n, y.d, y.t⟩ = false from k)
      clear h k
      go_enter Tryd.func13, Tryd.ntmps13
      go_wp2_with fail
      refine (specNumYes x.n x.d x.t _ hx NX.out).mono ?_
      rintro e w1 ⟨rfl, hb⟩
      obtain ⟨hc, hf⟩ := bcell hb
      have W1 := Lib.hid hb
      have B1 := Lib.hid (below_then (below3 w _ _ _) hb)
      have G1 := Lib.hid (blk_below (g := w.heap.size + 2) hb (blk_new _ _ (by simp)))
      have hz : w.heap.size + 2 < w1.heap.size := by have := hb.size; simp at this; omega
      clear hb
      go_wp2_with fail
      refine (specNumNo y.n y.d y.t _ hy NY.out).mono ?_
      rintro e w2 ⟨rfl, hb⟩
      have W2 := Lib.hid (W1.out.trans (hb.mono W1.out.size))
      clear hc hf
      obtain ⟨hc2, hf2⟩ := bcell W2.out
      have B2 := Lib.hid (below_then B1.out hb)
      have G2 := Lib.hid (blk_below hb G1.out)
      have hz2 : w.heap.size + 2 < w2.heap.size := by have := hb.size; omega
      clear hb
      go_wp2
      rw [X.out]
      exact item_ret rfl rfl rfl G2.out ⟨rfl, below_three B2.out (by omega) _ _ _⟩
    · have hB : both x y = true := both_iff.2 ⟨h, k⟩
      have P := parts_in h k
      have NX := Lib.hid (show isN ⟨x.n, x.d, x.t⟩ = true from h)
      have NY := Lib.hid (show isN ⟨y.n, y.d, y.t⟩ = true from k)
      have X := Lib.hid (add_mk hB)
      have XT := Lib.hid (addI_t x y)
      have a0 : -999999998000000001 ≤ x.n * y.d := by omega
      have a1 : x.n * y.d ≤ 999999998000000001 := by omega
      have b0 : -999999998000000001 ≤ y.n * x.d := by omega
      have b1 : y.n * x.d ≤ 999999998000000001 := by omega
      have c0 : -999999998000000001 ≤ x.d * y.d := by omega
      have c1 : x.d * y.d ≤ 999999998000000001 := by omega
      clear h k hB P
      go_enter Tryd.func13, Tryd.ntmps13
      go_wp2_with fail
      refine (specNumYes x.n x.d x.t _ hx NX.out).mono ?_
      rintro e w1 ⟨rfl, hb⟩
      obtain ⟨hc, hf⟩ := bcell hb
      have W1 := Lib.hid hb
      have B1 := Lib.hid (below_then (below3 w _ _ _) hb)
      have G1 := Lib.hid (blk_below (g := w.heap.size + 2) hb (blk_new _ _ (by simp)))
      have hz : w.heap.size + 2 < w1.heap.size := by have := hb.size; simp at this; omega
      clear hb
      go_wp2_with fail
      refine (specNumYes y.n y.d y.t _ hy NY.out).mono ?_
      rintro e w2 ⟨rfl, hb⟩
      have W2 := Lib.hid (W1.out.trans (hb.mono W1.out.size))
      clear hc hf
      obtain ⟨hc2, hf2⟩ := bcell W2.out
      have B2 := Lib.hid (below_then B1.out hb)
      have G2 := Lib.hid (blk_below hb G1.out)
      have hz2 : w.heap.size + 2 < w2.heap.size := by have := hb.size; omega
      clear hb
      go_wp2_with fail
      refine (specMake (x.n * y.d + y.n * x.d) (x.d * y.d) _ ⟨by omega, by omega⟩ ⟨by omega, by omega⟩).mono ?_
      rintro e w3 ⟨rfl, hb⟩
      have W3 := Lib.hid (W2.out.trans (hb.mono W2.out.size))
      clear hc2 hf2
      obtain ⟨hc3, hf3⟩ := bcell W3.out
      have B3 := Lib.hid (below_then B2.out hb)
      have G3 := Lib.hid (blk_below hb G2.out)
      clear hb
      rw [X.out]
      go_wp2
      rw [XT.out]
      exact item_ret rfl rfl rfl G3.out ⟨rfl, below_three B3.out (by omega) _ _ _⟩

set_option maxHeartbeats 2000000 in
theorem specMul (x y : It) (w : World) (hx : x.t.size ≤ 9223372036854775807) (hy : y.t.size ≤ 9223372036854775807) :
    Calls Tryd.prog 11 #[.agg #[.int .i64 x.n, .int .i64 x.d, .string x.t], .agg #[.int .i64 y.n, .int .i64 y.d, .string y.t]] w fun e w' => e = .returned (.agg #[.int .i64 (mulI x y).n, .int .i64 (mulI x y).d, .string (mulI x y).t]) ∧ Below w.heap.size w w' := by
  cases h : isN x
  · have X := Lib.hid (mul_no (y := y) (not_both1 h))
    have NX := Lib.hid (show isN ⟨x.n, x.d, x.t⟩ = false from h)
    clear h
    go_enter Tryd.func11, Tryd.ntmps11
    go_wp2_with fail
    refine (specNumNo x.n x.d x.t _ hx NX.out).mono ?_
    rintro e w1 ⟨rfl, hb⟩
    obtain ⟨hc, hf⟩ := bcell hb
    have W1 := Lib.hid hb
    have B1 := Lib.hid (below_then (below3 w _ _ _) hb)
    have G1 := Lib.hid (blk_below (g := w.heap.size + 2) hb (blk_new _ _ (by simp)))
    have hz : w.heap.size + 2 < w1.heap.size := by have := hb.size; simp at this; omega
    clear hb
    go_wp2
    rw [X.out]
    exact item_ret rfl rfl rfl G1.out ⟨rfl, below_three B1.out (by omega) _ _ _⟩
  · cases k : isN y
    · have X := Lib.hid (mul_no (x := x) (not_both2 k))
      have NX := Lib.hid (show isN ⟨x.n, x.d, x.t⟩ = true from h)
      have NY := Lib.hid (show isN ⟨y.n, y.d, y.t⟩ = false from k)
      clear h k
      go_enter Tryd.func11, Tryd.ntmps11
      go_wp2_with fail
      refine (specNumYes x.n x.d x.t _ hx NX.out).mono ?_
      rintro e w1 ⟨rfl, hb⟩
      obtain ⟨hc, hf⟩ := bcell hb
      have W1 := Lib.hid hb
      have B1 := Lib.hid (below_then (below3 w _ _ _) hb)
      have G1 := Lib.hid (blk_below (g := w.heap.size + 2) hb (blk_new _ _ (by simp)))
      have hz : w.heap.size + 2 < w1.heap.size := by have := hb.size; simp at this; omega
      clear hb
      go_wp2_with fail
      refine (specNumNo y.n y.d y.t _ hy NY.out).mono ?_
      rintro e w2 ⟨rfl, hb⟩
      have W2 := Lib.hid (W1.out.trans (hb.mono W1.out.size))
      clear hc hf
      obtain ⟨hc2, hf2⟩ := bcell W2.out
      have B2 := Lib.hid (below_then B1.out hb)
      have G2 := Lib.hid (blk_below hb G1.out)
      have hz2 : w.heap.size + 2 < w2.heap.size := by have := hb.size; omega
      clear hb
      go_wp2
      rw [X.out]
      exact item_ret rfl rfl rfl G2.out ⟨rfl, below_three B2.out (by omega) _ _ _⟩
    · have hB : both x y = true := both_iff.2 ⟨h, k⟩
      have P := parts_in h k
      have NX := Lib.hid (show isN ⟨x.n, x.d, x.t⟩ = true from h)
      have NY := Lib.hid (show isN ⟨y.n, y.d, y.t⟩ = true from k)
      have X := Lib.hid (mul_mk hB)
      have XT := Lib.hid (mulI_t x y)
      have a0 : -999999998000000001 ≤ x.n * y.n := by omega
      have a1 : x.n * y.n ≤ 999999998000000001 := by omega
      have c0 : -999999998000000001 ≤ x.d * y.d := by omega
      have c1 : x.d * y.d ≤ 999999998000000001 := by omega
      clear h k hB P
      go_enter Tryd.func11, Tryd.ntmps11
      go_wp2_with fail
      refine (specNumYes x.n x.d x.t _ hx NX.out).mono ?_
      rintro e w1 ⟨rfl, hb⟩
      obtain ⟨hc, hf⟩ := bcell hb
      have W1 := Lib.hid hb
      have B1 := Lib.hid (below_then (below3 w _ _ _) hb)
      have G1 := Lib.hid (blk_below (g := w.heap.size + 2) hb (blk_new _ _ (by simp)))
      have hz : w.heap.size + 2 < w1.heap.size := by have := hb.size; simp at this; omega
      clear hb
      go_wp2_with fail
      refine (specNumYes y.n y.d y.t _ hy NY.out).mono ?_
      rintro e w2 ⟨rfl, hb⟩
      have W2 := Lib.hid (W1.out.trans (hb.mono W1.out.size))
      clear hc hf
      obtain ⟨hc2, hf2⟩ := bcell W2.out
      have B2 := Lib.hid (below_then B1.out hb)
      have G2 := Lib.hid (blk_below hb G1.out)
      have hz2 : w.heap.size + 2 < w2.heap.size := by have := hb.size; omega
      clear hb
      go_wp2_with fail
      refine (specMake (x.n * y.n) (x.d * y.d) _ ⟨by omega, by omega⟩ ⟨by omega, by omega⟩).mono ?_
      rintro e w3 ⟨rfl, hb⟩
      have W3 := Lib.hid (W2.out.trans (hb.mono W2.out.size))
      clear hc2 hf2
      obtain ⟨hc3, hf3⟩ := bcell W3.out
      have B3 := Lib.hid (below_then B2.out hb)
      have G3 := Lib.hid (blk_below hb G2.out)
      clear hb
      rw [X.out]
      go_wp2
      rw [XT.out]
      exact item_ret rfl rfl rfl G3.out ⟨rfl, below_three B3.out (by omega) _ _ _⟩

set_option maxHeartbeats 2000000 in
theorem specDiv (x y : It) (w : World) (hx : x.t.size ≤ 9223372036854775807) (hy : y.t.size ≤ 9223372036854775807) :
    Calls Tryd.prog 34 #[.agg #[.int .i64 x.n, .int .i64 x.d, .string x.t], .agg #[.int .i64 y.n, .int .i64 y.d, .string y.t]] w fun e w' => e = .returned (.agg #[.int .i64 (divI x y).n, .int .i64 (divI x y).d, .string (divI x y).t]) ∧ Below w.heap.size w w' := by
  cases h : isN x
  · have X := Lib.hid (div_no (y := y) (not_both1 h))
    have NX := Lib.hid (show isN ⟨x.n, x.d, x.t⟩ = false from h)
    clear h
    go_enter Tryd.func34, Tryd.ntmps34
    go_wp2_with fail
    refine (specNumNo x.n x.d x.t _ hx NX.out).mono ?_
    rintro e w1 ⟨rfl, hb⟩
    obtain ⟨hc, hf⟩ := bcell hb
    have W1 := Lib.hid hb
    have B1 := Lib.hid (below_then (below3 w _ _ _) hb)
    have G1 := Lib.hid (blk_below (g := w.heap.size + 2) hb (blk_new _ _ (by simp)))
    have hz : w.heap.size + 2 < w1.heap.size := by have := hb.size; simp at this; omega
    clear hb
    go_wp2
    rw [X.out]
    exact item_ret rfl rfl rfl G1.out ⟨rfl, below_three B1.out (by omega) _ _ _⟩
  · cases k : isN y
    · have X := Lib.hid (div_no (x := x) (not_both2 k))
      have NX := Lib.hid (show isN ⟨x.n, x.d, x.t⟩ = true from h)
      have NY := Lib.hid (show isN ⟨y.n, y.d, y.t⟩ = false from k)
      clear h k
      go_enter Tryd.func34, Tryd.ntmps34
      go_wp2_with fail
      refine (specNumYes x.n x.d x.t _ hx NX.out).mono ?_
      rintro e w1 ⟨rfl, hb⟩
      obtain ⟨hc, hf⟩ := bcell hb
      have W1 := Lib.hid hb
      have B1 := Lib.hid (below_then (below3 w _ _ _) hb)
      have G1 := Lib.hid (blk_below (g := w.heap.size + 2) hb (blk_new _ _ (by simp)))
      have hz : w.heap.size + 2 < w1.heap.size := by have := hb.size; simp at this; omega
      clear hb
      go_wp2_with fail
      refine (specNumNo y.n y.d y.t _ hy NY.out).mono ?_
      rintro e w2 ⟨rfl, hb⟩
      have W2 := Lib.hid (W1.out.trans (hb.mono W1.out.size))
      clear hc hf
      obtain ⟨hc2, hf2⟩ := bcell W2.out
      have B2 := Lib.hid (below_then B1.out hb)
      have G2 := Lib.hid (blk_below hb G1.out)
      have hz2 : w.heap.size + 2 < w2.heap.size := by have := hb.size; omega
      clear hb
      go_wp2
      rw [X.out]
      exact item_ret rfl rfl rfl G2.out ⟨rfl, below_three B2.out (by omega) _ _ _⟩
    · have hB : both x y = true := both_iff.2 ⟨h, k⟩
      have P := parts_in h k
      have NX := Lib.hid (show isN ⟨x.n, x.d, x.t⟩ = true from h)
      have NY := Lib.hid (show isN ⟨y.n, y.d, y.t⟩ = true from k)
      have X := Lib.hid (div_mk hB)
      have XT := Lib.hid (divI_t x y)
      have a0 : -999999998000000001 ≤ x.n * y.d := by omega
      have a1 : x.n * y.d ≤ 999999998000000001 := by omega
      have c0 : -999999998000000001 ≤ x.d * y.n := by omega
      have c1 : x.d * y.n ≤ 999999998000000001 := by omega
      clear h k hB P
      go_enter Tryd.func34, Tryd.ntmps34
      go_wp2_with fail
      refine (specNumYes x.n x.d x.t _ hx NX.out).mono ?_
      rintro e w1 ⟨rfl, hb⟩
      obtain ⟨hc, hf⟩ := bcell hb
      have W1 := Lib.hid hb
      have B1 := Lib.hid (below_then (below3 w _ _ _) hb)
      have G1 := Lib.hid (blk_below (g := w.heap.size + 2) hb (blk_new _ _ (by simp)))
      have hz : w.heap.size + 2 < w1.heap.size := by have := hb.size; simp at this; omega
      clear hb
      go_wp2_with fail
      refine (specNumYes y.n y.d y.t _ hy NY.out).mono ?_
      rintro e w2 ⟨rfl, hb⟩
      have W2 := Lib.hid (W1.out.trans (hb.mono W1.out.size))
      clear hc hf
      obtain ⟨hc2, hf2⟩ := bcell W2.out
      have B2 := Lib.hid (below_then B1.out hb)
      have G2 := Lib.hid (blk_below hb G1.out)
      have hz2 : w.heap.size + 2 < w2.heap.size := by have := hb.size; omega
      clear hb
      go_wp2_with fail
      refine (specMake (x.n * y.d) (x.d * y.n) _ ⟨by omega, by omega⟩ ⟨by omega, by omega⟩).mono ?_
      rintro e w3 ⟨rfl, hb⟩
      have W3 := Lib.hid (W2.out.trans (hb.mono W2.out.size))
      clear hc2 hf2
      obtain ⟨hc3, hf3⟩ := bcell W3.out
      have B3 := Lib.hid (below_then B2.out hb)
      have G3 := Lib.hid (blk_below hb G2.out)
      clear hb
      rw [X.out]
      go_wp2
      rw [XT.out]
      exact item_ret rfl rfl rfl G3.out ⟨rfl, below_three B3.out (by omega) _ _ _⟩

theorem ret_ii {a b c d : Int} (h : a = c) (k : b = d) : Ending.returned (.tuple #[.int .i64 a, .int .i64 b]) = .returned (.tuple #[.int .i64 c, .int .i64 d]) := by rw [h, k]
/-- The two parts with a positive second one. -/
def flip1 (x y : It) : Int := if y.n < 0 then -(x.n * y.d) else x.n * y.d
def flip2 (x y : It) : Int := if y.n < 0 then -(x.d * y.n) else x.d * y.n
/-- What the two parts say. -/
theorem flip_facts {x y : It} (h : both x y = true) (h0 : y.n ≠ 0) : ∃ p s : Int, flip1 x y = p ∧ flip2 x y = s ∧ (-999999998000000001 ≤ p ∧ p ≤ 999999998000000001) ∧ 0 < s ∧ s ≤ 999999998000000001 ∧
    mkI (p.fdiv s) 1 = quoI x y ∧ (y.n < 0 → mkI (-(p - s * p.fdiv s)) (x.d * y.d) = remI x y) ∧ (¬ y.n < 0 → mkI (p - s * p.fdiv s) (x.d * y.d) = remI x y) ∧ (-1000000000000000000 ≤ p.fdiv s ∧ p.fdiv s ≤ 1000000000000000000) ∧
    (-999999998000000001 ≤ s * p.fdiv s - p ∧ s * p.fdiv s - p ≤ 999999998000000001) := by
  obtain ⟨hx, hy⟩ := both_iff.1 h
  have P := parts_in hx hy
  have a := isN_iff.1 hx
  have b := isN_iff.1 hy
  have hz : x.d * y.n ≠ 0 := Int.mul_ne_zero (by omega) h0
  have q := quo_mk h h0
  have r := rem_mk h h0
  have e := Int.fmod_add_mul_fdiv (x.n * y.d) (x.d * y.n)
  have fm := fmod_in (n := x.n * y.d) (d := x.d * y.n) (A := 999999998000000001) (by omega) (by omega) hz
  have fd := fdiv_in (n := x.n * y.d) (d := x.d * y.n) (A := 999999998000000001) hz (by omega) (by omega)
  refine ⟨_, _, rfl, rfl, ?_⟩
  unfold flip1 flip2
  by_cases c : y.n < 0
  · have s0 : x.d * y.n < 0 := Int.mul_neg_of_pos_of_neg (by omega) c
    rw [if_pos c, if_pos c, Int.neg_fdiv_neg, Int.neg_mul]
    refine ⟨by omega, by omega, by omega, q, fun _ => ?_, fun k => absurd c k, by omega, by omega⟩
    rw [← r]; congr 1; omega
  · have s0 : 0 < x.d * y.n := Int.mul_pos (by omega) (by omega)
    rw [if_neg c, if_neg c]
    refine ⟨by omega, by omega, by omega, q, fun k => absurd k c, fun _ => ?_, by omega, by omega⟩
    rw [← r]; congr 1; omega

end Go.Proofs.YtmglolpiekbnpaaDoor
