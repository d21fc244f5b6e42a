/- The reference's arithmetic, each function against its plain one. -/
import Derived.Test.YtmglolpiekbnpaaRows
import Derived.Test.YtmglolpiekbnpaaNumMath
import Derived.Test.YtmglolpiekbnpaaNumKit
import Derived.Test.YtmglolpiekbnpaaNumMake
import Derived.Test.YtmglolpiekbnpaaNumSpecMake
import Derived.WalkKit
import Derived.WalkSpells
import Derived.WalkLawsBesides
import Derived.IntWalk
import Derived.Lib.Hide
import Derived.Deep.RegionWith
namespace Go.Proofs.Ytmglolpiekbnpaa
open Go.RowKit
set_option linter.unusedVariables false
theorem floorS_t (x : It) : (floorI x).t = ⟨#[]⟩ := by unfold floorI; split; exact ofQ_t _; rfl
theorem roundS_t (x : It) : (roundI x).t = ⟨#[]⟩ := by unfold roundI; split; exact ofQ_t _; rfl
theorem quoS_t (x y : It) : (quoI x y).t = ⟨#[]⟩ := by unfold quoI; split; exact ofQ_t _; rfl
theorem remS_t (x y : It) : (remI x y).t = ⟨#[]⟩ := by unfold remI; split; exact ofQ_t _; rfl
theorem not_both1 {x y : It} (h : isN x = false) : both x y = false := by unfold both; rw [h]; rfl
theorem not_both2 {x y : It} (h : isN y = false) : both x y = false := by unfold both; rw [h]; simp
theorem add_no {x y : It} (h : both x y = false) : addI x y = noI := by unfold addI; simp [h]
theorem mul_no {x y : It} (h : both x y = false) : mulI x y = noI := by unfold mulI; simp [h]
theorem div_no {x y : It} (h : both x y = false) : divI x y = noI := by unfold divI; simp [h]
theorem quo_no {x y : It} (h : both x y = false) : quoI x y = noI := by unfold quoI; simp [h]
theorem rem_no {x y : It} (h : both x y = false) : remI x y = noI := by unfold remI; simp [h]
theorem quo_no0 {x y : It} (h : y.n = 0) : quoI x y = noI := by unfold quoI; simp [h]
theorem rem_no0 {x y : It} (h : y.n = 0) : remI x y = noI := by unfold remI; simp [h]

set_option maxHeartbeats 2000000 in
theorem specAdd (x y : It) (w : World) (hx : x.t.size ≤ 9223372036854775807) (hy : y.t.size ≤ 9223372036854775807) :
    Calls Try.prog 17 #[.agg #[.int .i64 x.n, .int .i64 x.d, .string x.t], .agg #[.int .i64 y.n, .int .i64 y.d, .string y.t]] w fun e w' => e = .returned (.agg #[.int .i64 (addI x y).n, .int .i64 (addI x y).d, .string (addI x y).t]) ∧ Below w.heap.size w w' := by
  cases h : isN x
  · have X := Lib.hid (add_no (y := y) (not_both1 h))
    have NX := Lib.hid (show isN ⟨x.n, x.d, x.t⟩ = false from h)
    clear h
    go_enter Try.func17, Try.ntmps17
    go_wp2_with fail
    refine (specNumNo x.n x.d x.t _ hx NX.out).mono ?_
    rintro e w1 ⟨rfl, hb⟩
    obtain ⟨hc, hf⟩ := bcell hb
    have W1 := Lib.hid hb
    have B1 := Lib.hid (below_then (below3 w _ _ _) hb)
    have G1 := Lib.hid (blk_below (g := w.heap.size + 2) hb (blk_new _ _ (by simp)))
    have hz : w.heap.size + 2 < w1.heap.size := by have := hb.size; simp at this; omega
    clear hb
    go_wp2
    rw [X.out]
    exact item_ret rfl rfl rfl G1.out ⟨rfl, below_three B1.out (by omega) _ _ _⟩
  · cases k : isN y
    · have X := Lib.hid (add_no (x := x) (not_both2 k))
      have NX := Lib.hid (show isN ⟨x.n, x.d, x.t⟩ = true from h)
      have NY := Lib.hid (show isN ⟨y.n, y.d, y.t⟩ = false from k)
      clear h k
      go_enter Try.func17, Try.ntmps17
      go_wp2_with fail
      refine (specNumYes x.n x.d x.t _ hx NX.out).mono ?_
      rintro e w1 ⟨rfl, hb⟩
      obtain ⟨hc, hf⟩ := bcell hb
      have W1 := Lib.hid hb
      have B1 := Lib.hid (below_then (below3 w _ _ _) hb)
      have G1 := Lib.hid (blk_below (g := w.heap.size + 2) hb (blk_new _ _ (by simp)))
      have hz : w.heap.size + 2 < w1.heap.size := by have := hb.size; simp at this; omega
      clear hb
      go_wp2_with fail
      refine (specNumNo y.n y.d y.t _ hy NY.out).mono ?_
      rintro e w2 ⟨rfl, hb⟩
      have W2 := Lib.hid (W1.out.trans (hb.mono W1.out.size))
      clear hc hf
      obtain ⟨hc2, hf2⟩ := bcell W2.out
      have B2 := Lib.hid (below_then B1.out hb)
      have G2 := Lib.hid (blk_below hb G1.out)
      have hz2 : w.heap.size + 2 < w2.heap.size := by have := hb.size; omega
      clear hb
      go_wp2
      rw [X.out]
      exact item_ret rfl rfl rfl G2.out ⟨rfl, below_three B2.out (by omega) _ _ _⟩
    · have hB : both x y = true := both_iff.2 ⟨h, k⟩
      have P := parts_in h k
      have NX := Lib.hid (show isN ⟨x.n, x.d, x.t⟩ = true from h)
      have NY := Lib.hid (show isN ⟨y.n, y.d, y.t⟩ = true from k)
      have X := Lib.hid (add_mk hB)
      have XT := Lib.hid (addI_t x y)
      have a0 : -999999998000000001 ≤ x.n * y.d := by omega
      have a1 : x.n * y.d ≤ 999999998000000001 := by omega
      have b0 : -999999998000000001 ≤ y.n * x.d := by omega
      have b1 : y.n * x.d ≤ 999999998000000001 := by omega
      have c0 : -999999998000000001 ≤ x.d * y.d := by omega
      have c1 : x.d * y.d ≤ 999999998000000001 := by omega
      clear h k hB P
      go_enter Try.func17, Try.ntmps17
      go_wp2_with fail
      refine (specNumYes x.n x.d x.t _ hx NX.out).mono ?_
      rintro e w1 ⟨rfl, hb⟩
      obtain ⟨hc, hf⟩ := bcell hb
      have W1 := Lib.hid hb
      have B1 := Lib.hid (below_then (below3 w _ _ _) hb)
      have G1 := Lib.hid (blk_below (g := w.heap.size + 2) hb (blk_new _ _ (by simp)))
      have hz : w.heap.size + 2 < w1.heap.size := by have := hb.size; simp at this; omega
      clear hb
      go_wp2_with fail
      refine (specNumYes y.n y.d y.t _ hy NY.out).mono ?_
      rintro e w2 ⟨rfl, hb⟩
      have W2 := Lib.hid (W1.out.trans (hb.mono W1.out.size))
      clear hc hf
      obtain ⟨hc2, hf2⟩ := bcell W2.out
      have B2 := Lib.hid (below_then B1.out hb)
      have G2 := Lib.hid (blk_below hb G1.out)
      have hz2 : w.heap.size + 2 < w2.heap.size := by have := hb.size; omega
      clear hb
      go_wp2_with fail
      refine (specMake (x.n * y.d + y.n * x.d) (x.d * y.d) _ ⟨by omega, by omega⟩ ⟨by omega, by omega⟩).mono ?_
      rintro e w3 ⟨rfl, hb⟩
      have W3 := Lib.hid (W2.out.trans (hb.mono W2.out.size))
      clear hc2 hf2
      obtain ⟨hc3, hf3⟩ := bcell W3.out
      have B3 := Lib.hid (below_then B2.out hb)
      have G3 := Lib.hid (blk_below hb G2.out)
      clear hb
      rw [X.out]
      go_wp2
      rw [XT.out]
      exact item_ret rfl rfl rfl G3.out ⟨rfl, below_three B3.out (by omega) _ _ _⟩

set_option maxHeartbeats 2000000 in
theorem specMul (x y : It) (w : World) (hx : x.t.size ≤ 9223372036854775807) (hy : y.t.size ≤ 9223372036854775807) :
    Calls Try.prog 18 #[.agg #[.int .i64 x.n, .int .i64 x.d, .string x.t], .agg #[.int .i64 y.n, .int .i64 y.d, .string y.t]] w fun e w' => e = .returned (.agg #[.int .i64 (mulI x y).n, .int .i64 (mulI x y).d, .string (mulI x y).t]) ∧ Below w.heap.size w w' := by
  cases h : isN x
  · have X := Lib.hid (mul_no (y := y) (not_both1 h))
    have NX := Lib.hid (show isN ⟨x.n, x.d, x.t⟩ = false from h)
    clear h
    go_enter Try.func18, Try.ntmps18
    go_wp2_with fail
    refine (specNumNo x.n x.d x.t _ hx NX.out).mono ?_
    rintro e w1 ⟨rfl, hb⟩
    obtain ⟨hc, hf⟩ := bcell hb
    have W1 := Lib.hid hb
    have B1 := Lib.hid (below_then (below3 w _ _ _) hb)
    have G1 := Lib.hid (blk_below (g := w.heap.size + 2) hb (blk_new _ _ (by simp)))
    have hz : w.heap.size + 2 < w1.heap.size := by have := hb.size; simp at this; omega
    clear hb
    go_wp2
    rw [X.out]
    exact item_ret rfl rfl rfl G1.out ⟨rfl, below_three B1.out (by omega) _ _ _⟩
  · cases k : isN y
    · have X := Lib.hid (mul_no (x := x) (not_both2 k))
      have NX := Lib.hid (show isN ⟨x.n, x.d, x.t⟩ = true from h)
      have NY := Lib.hid (show isN ⟨y.n, y.d, y.t⟩ = false from k)
      clear h k
      go_enter Try.func18, Try.ntmps18
      go_wp2_with fail
      refine (specNumYes x.n x.d x.t _ hx NX.out).mono ?_
      rintro e w1 ⟨rfl, hb⟩
      obtain ⟨hc, hf⟩ := bcell hb
      have W1 := Lib.hid hb
      have B1 := Lib.hid (below_then (below3 w _ _ _) hb)
      have G1 := Lib.hid (blk_below (g := w.heap.size + 2) hb (blk_new _ _ (by simp)))
      have hz : w.heap.size + 2 < w1.heap.size := by have := hb.size; simp at this; omega
      clear hb
      go_wp2_with fail
      refine (specNumNo y.n y.d y.t _ hy NY.out).mono ?_
      rintro e w2 ⟨rfl, hb⟩
      have W2 := Lib.hid (W1.out.trans (hb.mono W1.out.size))
      clear hc hf
      obtain ⟨hc2, hf2⟩ := bcell W2.out
      have B2 := Lib.hid (below_then B1.out hb)
      have G2 := Lib.hid (blk_below hb G1.out)
      have hz2 : w.heap.size + 2 < w2.heap.size := by have := hb.size; omega
      clear hb
      go_wp2
      rw [X.out]
      exact item_ret rfl rfl rfl G2.out ⟨rfl, below_three B2.out (by omega) _ _ _⟩
    · have hB : both x y = true := both_iff.2 ⟨h, k⟩
      have P := parts_in h k
      have NX := Lib.hid (show isN ⟨x.n, x.d, x.t⟩ = true from h)
      have NY := Lib.hid (show isN ⟨y.n, y.d, y.t⟩ = true from k)
      have X := Lib.hid (mul_mk hB)
      have XT := Lib.hid (mulI_t x y)
      have a0 : -999999998000000001 ≤ x.n * y.n := by omega
      have a1 : x.n * y.n ≤ 999999998000000001 := by omega
      have c0 : -999999998000000001 ≤ x.d * y.d := by omega
      have c1 : x.d * y.d ≤ 999999998000000001 := by omega
      clear h k hB P
      go_enter Try.func18, Try.ntmps18
      go_wp2_with fail
      refine (specNumYes x.n x.d x.t _ hx NX.out).mono ?_
      rintro e w1 ⟨rfl, hb⟩
      obtain ⟨hc, hf⟩ := bcell hb
      have W1 := Lib.hid hb
      have B1 := Lib.hid (below_then (below3 w _ _ _) hb)
      have G1 := Lib.hid (blk_below (g := w.heap.size + 2) hb (blk_new _ _ (by simp)))
      have hz : w.heap.size + 2 < w1.heap.size := by have := hb.size; simp at this; omega
      clear hb
      go_wp2_with fail
      refine (specNumYes y.n y.d y.t _ hy NY.out).mono ?_
      rintro e w2 ⟨rfl, hb⟩
      have W2 := Lib.hid (W1.out.trans (hb.mono W1.out.size))
      clear hc hf
      obtain ⟨hc2, hf2⟩ := bcell W2.out
      have B2 := Lib.hid (below_then B1.out hb)
      have G2 := Lib.hid (blk_below hb G1.out)
      have hz2 : w.heap.size + 2 < w2.heap.size := by have := hb.size; omega
      clear hb
      go_wp2_with fail
      refine (specMake (x.n * y.n) (x.d * y.d) _ ⟨by omega, by omega⟩ ⟨by omega, by omega⟩).mono ?_
      rintro e w3 ⟨rfl, hb⟩
      have W3 := Lib.hid (W2.out.trans (hb.mono W2.out.size))
      clear hc2 hf2
      obtain ⟨hc3, hf3⟩ := bcell W3.out
      have B3 := Lib.hid (below_then B2.out hb)
      have G3 := Lib.hid (blk_below hb G2.out)
      clear hb
      rw [X.out]
      go_wp2
      rw [XT.out]
      exact item_ret rfl rfl rfl G3.out ⟨rfl, below_three B3.out (by omega) _ _ _⟩

set_option maxHeartbeats 1000000 in
theorem specNeg (x : It) (w : World) (hx : x.t.size ≤ 9223372036854775807) :
    Calls Try.prog 52 #[.agg #[.int .i64 x.n, .int .i64 x.d, .string x.t]] w fun e w' => e = .returned (.agg #[.int .i64 (negI x).n, .int .i64 (negI x).d, .string (negI x).t]) ∧ Below w.heap.size w w' := by
  cases h : isN x
  · have X := Lib.hid (show negI x = noI by unfold negI; simp [h])
    have NX := Lib.hid (show isN ⟨x.n, x.d, x.t⟩ = false from h)
    clear h
    go_enter Try.func52, Try.ntmps52
    go_wp2_with fail
    refine (specNumNo x.n x.d x.t _ hx NX.out).mono ?_
    rintro e w1 ⟨rfl, hb⟩
    obtain ⟨hc, hf⟩ := bcell hb
    have W1 := Lib.hid hb
    have B1 := Lib.hid (below_then (below2 w _ _) hb)
    have G1 := Lib.hid (blk_below (g := w.heap.size + 1) hb (blk_new _ _ (by simp)))
    have hz : w.heap.size + 1 < w1.heap.size := by have := hb.size; simp at this; omega
    clear hb
    go_wp2
    rw [X.out]
    exact item_ret rfl rfl rfl G1.out ⟨rfl, below_three B1.out (by omega) _ _ _⟩
  · have P := isN_iff.1 h
    have p0 : -999999999 ≤ x.n := P.2.2.2.1
    have p1 : x.n ≤ 999999999 := P.2.2.2.2.1
    have p2 : 1 ≤ x.d := P.2.1
    have p3 : x.d ≤ 999999999 := P.2.2.1
    have NX := Lib.hid (show isN ⟨x.n, x.d, x.t⟩ = true from h)
    have X := Lib.hid (neg_mk h)
    clear h P
    go_enter Try.func52, Try.ntmps52
    go_wp2_with fail
    refine (specNumYes x.n x.d x.t _ hx NX.out).mono ?_
    rintro e w1 ⟨rfl, hb⟩
    obtain ⟨hc, hf⟩ := bcell hb
    have W1 := Lib.hid hb
    have B1 := Lib.hid (below_then (below2 w _ _) hb)
    have G1 := Lib.hid (blk_below (g := w.heap.size + 1) hb (blk_new _ _ (by simp)))
    have hz : w.heap.size + 1 < w1.heap.size := by have := hb.size; simp at this; omega
    clear hb
    go_wp2
    rw [← X.out]
    exact item_ret rfl rfl rfl G1.out ⟨rfl, below_three B1.out (by omega) _ _ _⟩

set_option maxHeartbeats 1000000 in
theorem specFl (n d : Int) (w : World) (n0 : -4000000000000000000 ≤ n) (n1 : n ≤ 4000000000000000000) (d0 : 0 < d) (d1 : d ≤ 4000000000000000000) :
    Calls Try.prog 50 #[.int .i64 n, .int .i64 d] w fun e w' => e = .returned (.int .i64 (n.fdiv d)) ∧ w = w' := by
  have X := flS_eq (n := n) d0
  unfold flS at X
  obtain ⟨r0, r1, _⟩ := tmod_in2 (x := n) (show d ≠ 0 by omega) (by omega) d1
  have q := Int.natAbs_tdiv_le_natAbs n d
  have q0 : -4000000000000000000 ≤ n.tdiv d := by omega
  have q1 : n.tdiv d ≤ 4000000000000000000 := by omega
  clear q
  by_cases c : n.tmod d < 0
  · rw [if_pos c] at X
    have XX := Lib.hid X
    clear X
    go_enter Try.func50, Try.ntmps50
    go_wp2
    go_ret
    exact ⟨ret_i XX.out, rfl⟩
  · rw [if_neg c] at X
    have XX := Lib.hid X
    clear X
    go_enter Try.func50, Try.ntmps50
    go_wp2
    go_ret
    exact ⟨ret_i XX.out, rfl⟩

set_option maxHeartbeats 1000000 in
theorem specFloor (x : It) (w : World) (hx : x.t.size ≤ 9223372036854775807) :
    Calls Try.prog 23 #[.agg #[.int .i64 x.n, .int .i64 x.d, .string x.t]] w fun e w' => e = .returned (.agg #[.int .i64 (floorI x).n, .int .i64 (floorI x).d, .string (floorI x).t]) ∧ Below w.heap.size w w' := by
  cases h : isN x
  · have X := Lib.hid (show floorI x = noI by unfold floorI; simp [h])
    have NX := Lib.hid (show isN ⟨x.n, x.d, x.t⟩ = false from h)
    clear h
    go_enter Try.func23, Try.ntmps23
    go_wp2_with fail
    refine (specNumNo x.n x.d x.t _ hx NX.out).mono ?_
    rintro e w1 ⟨rfl, hb⟩
    obtain ⟨hc, hf⟩ := bcell hb
    have W1 := Lib.hid hb
    have B1 := Lib.hid (below_then (below2 w _ _) hb)
    have G1 := Lib.hid (blk_below (g := w.heap.size + 1) hb (blk_new _ _ (by simp)))
    have hz : w.heap.size + 1 < w1.heap.size := by have := hb.size; simp at this; omega
    clear hb
    go_wp2
    rw [X.out]
    exact item_ret rfl rfl rfl G1.out ⟨rfl, below_three B1.out (by omega) _ _ _⟩
  · have P := isN_iff.1 h
    have p0 : -999999999 ≤ x.n := P.2.2.2.1
    have p1 : x.n ≤ 999999999 := P.2.2.2.2.1
    have p2 : 1 ≤ x.d := P.2.1
    have p3 : x.d ≤ 999999999 := P.2.2.1
    have NX := Lib.hid (show isN ⟨x.n, x.d, x.t⟩ = true from h)
    have X := Lib.hid (floor_mk h)
    have XT := Lib.hid (floorS_t x)
    have q := fdiv_in (n := x.n) (d := x.d) (A := 2999999997) (by omega) (by omega) (by omega)
    clear h P
    go_enter Try.func23, Try.ntmps23
    go_wp2_with fail
    refine (specNumYes x.n x.d x.t _ hx NX.out).mono ?_
    rintro e w1 ⟨rfl, hb⟩
    obtain ⟨hc, hf⟩ := bcell hb
    have W1 := Lib.hid hb
    have B1 := Lib.hid (below_then (below2 w _ _) hb)
    have G1 := Lib.hid (blk_below (g := w.heap.size + 1) hb (blk_new _ _ (by simp)))
    have hz : w.heap.size + 1 < w1.heap.size := by have := hb.size; simp at this; omega
    clear hb
    go_wp2_with fail
    refine (specFl (x.n) (x.d) _ (by omega) (by omega) (by omega) (by omega)).mono ?_
    rintro e w' ⟨rfl, rfl⟩
    go_wp2_with fail
    refine (specMake ((x.n).fdiv (x.d)) 1 _ ⟨by omega, by omega⟩ ⟨by omega, by omega⟩).mono ?_
    rintro e w2 ⟨rfl, hb⟩
    have W2 := Lib.hid (W1.out.trans (hb.mono W1.out.size))
    clear hc hf
    obtain ⟨hc2, hf2⟩ := bcell W2.out
    have B2 := Lib.hid (below_then B1.out hb)
    have G2 := Lib.hid (blk_below hb G1.out)
    clear hb
    rw [X.out]
    go_wp2
    rw [XT.out]
    exact item_ret rfl rfl rfl G2.out ⟨rfl, below_three B2.out (by omega) _ _ _⟩

set_option maxHeartbeats 1000000 in
theorem specRound (x : It) (w : World) (hx : x.t.size ≤ 9223372036854775807) :
    Calls Try.prog 24 #[.agg #[.int .i64 x.n, .int .i64 x.d, .string x.t]] w fun e w' => e = .returned (.agg #[.int .i64 (roundI x).n, .int .i64 (roundI x).d, .string (roundI x).t]) ∧ Below w.heap.size w w' := by
  cases h : isN x
  · have X := Lib.hid (show roundI x = noI by unfold roundI; simp [h])
    have NX := Lib.hid (show isN ⟨x.n, x.d, x.t⟩ = false from h)
    clear h
    go_enter Try.func24, Try.ntmps24
    go_wp2_with fail
    refine (specNumNo x.n x.d x.t _ hx NX.out).mono ?_
    rintro e w1 ⟨rfl, hb⟩
    obtain ⟨hc, hf⟩ := bcell hb
    have W1 := Lib.hid hb
    have B1 := Lib.hid (below_then (below2 w _ _) hb)
    have G1 := Lib.hid (blk_below (g := w.heap.size + 1) hb (blk_new _ _ (by simp)))
    have hz : w.heap.size + 1 < w1.heap.size := by have := hb.size; simp at this; omega
    clear hb
    go_wp2
    rw [X.out]
    exact item_ret rfl rfl rfl G1.out ⟨rfl, below_three B1.out (by omega) _ _ _⟩
  · have P := isN_iff.1 h
    have p0 : -999999999 ≤ x.n := P.2.2.2.1
    have p1 : x.n ≤ 999999999 := P.2.2.2.2.1
    have p2 : 1 ≤ x.d := P.2.1
    have p3 : x.d ≤ 999999999 := P.2.2.1
    have NX := Lib.hid (show isN ⟨x.n, x.d, x.t⟩ = true from h)
    have X := Lib.hid (round_mk h)
    have XT := Lib.hid (roundS_t x)
    have q := fdiv_in (n := 2 * x.n + x.d) (d := 2 * x.d) (A := 2999999997) (by omega) (by omega) (by omega)
    clear h P
    go_enter Try.func24, Try.ntmps24
    go_wp2_with fail
    refine (specNumYes x.n x.d x.t _ hx NX.out).mono ?_
    rintro e w1 ⟨rfl, hb⟩
    obtain ⟨hc, hf⟩ := bcell hb
    have W1 := Lib.hid hb
    have B1 := Lib.hid (below_then (below2 w _ _) hb)
    have G1 := Lib.hid (blk_below (g := w.heap.size + 1) hb (blk_new _ _ (by simp)))
    have hz : w.heap.size + 1 < w1.heap.size := by have := hb.size; simp at this; omega
    clear hb
    go_wp2_with fail
    refine (specFl (2 * x.n + x.d) (2 * x.d) _ (by omega) (by omega) (by omega) (by omega)).mono ?_
    rintro e w' ⟨rfl, rfl⟩
    go_wp2_with fail
    refine (specMake ((2 * x.n + x.d).fdiv (2 * x.d)) 1 _ ⟨by omega, by omega⟩ ⟨by omega, by omega⟩).mono ?_
    rintro e w2 ⟨rfl, hb⟩
    have W2 := Lib.hid (W1.out.trans (hb.mono W1.out.size))
    clear hc hf
    obtain ⟨hc2, hf2⟩ := bcell W2.out
    have B2 := Lib.hid (below_then B1.out hb)
    have G2 := Lib.hid (blk_below hb G1.out)
    clear hb
    rw [X.out]
    go_wp2
    rw [XT.out]
    exact item_ret rfl rfl rfl G2.out ⟨rfl, below_three B2.out (by omega) _ _ _⟩

theorem ret_ii {a b c d : Int} (h : a = c) (k : b = d) : Ending.returned (.tuple #[.int .i64 a, .int .i64 b]) = .returned (.tuple #[.int .i64 c, .int .i64 d]) := by rw [h, k]
/-- The two parts with a positive second one. -/
def flip1 (x y : It) : Int := if y.n < 0 then -(x.n * y.d) else x.n * y.d
def flip2 (x y : It) : Int := if y.n < 0 then -(x.d * y.n) else x.d * y.n
set_option maxHeartbeats 1000000 in
theorem specParts (x y : It) (w : World) (d1 : 1 ≤ x.d) (P : (-999999998000000001 ≤ x.n * y.d ∧ x.n * y.d ≤ 999999998000000001) ∧ (-999999998000000001 ≤ x.d * y.n ∧ x.d * y.n ≤ 999999998000000001)) :
    Calls Try.prog 48 #[.agg #[.int .i64 x.n, .int .i64 x.d, .string x.t], .agg #[.int .i64 y.n, .int .i64 y.d, .string y.t]] w fun e w' => e = .returned (.tuple #[.int .i64 (flip1 x y), .int .i64 (flip2 x y)]) ∧ Below w.heap.size w w' := by
  have e : x.d * y.n = y.n * x.d := Int.mul_comm ..
  rw [e] at P
  have a0 := P.1.1
  have a1 := P.1.2
  have b0 := P.2.1
  have b1 := P.2.2
  clear P e
  by_cases c : y.n < 0
  · have X1 := Lib.hid (show flip1 x y = -(x.n * y.d) by unfold flip1; rw [if_pos c])
    have X2 := Lib.hid (show flip2 x y = -(y.n * x.d) by unfold flip2; rw [if_pos c, Int.mul_comm])
    have c' : y.n * x.d < 0 := Int.mul_neg_of_neg_of_pos c (by omega)
    clear c
    go_enter Try.func48, Try.ntmps48
    go_wp2
    go_ret2
    exact ⟨ret_ii X1.out.symm X2.out.symm, below2 w _ _⟩
  · have X1 := Lib.hid (show flip1 x y = x.n * y.d by unfold flip1; rw [if_neg c])
    have X2 := Lib.hid (show flip2 x y = y.n * x.d by unfold flip2; rw [if_neg c, Int.mul_comm])
    have c' : 0 ≤ y.n * x.d := Int.mul_nonneg (by omega) (by omega)
    clear c
    go_enter Try.func48, Try.ntmps48
    go_wp2
    go_ret2
    exact ⟨ret_ii X1.out.symm X2.out.symm, below2 w _ _⟩
/-- What the two parts say. -/
theorem flip_facts {x y : It} (h : both x y = true) (h0 : y.n ≠ 0) : ∃ p s : Int, flip1 x y = p ∧ flip2 x y = s ∧ (-999999998000000001 ≤ p ∧ p ≤ 999999998000000001) ∧ 0 < s ∧ s ≤ 999999998000000001 ∧
    mkI (p.fdiv s) 1 = quoI x y ∧ (y.n < 0 → mkI (-(p - s * p.fdiv s)) (x.d * y.d) = remI x y) ∧ (¬ y.n < 0 → mkI (p - s * p.fdiv s) (x.d * y.d) = remI x y) ∧ (-1000000000000000000 ≤ p.fdiv s ∧ p.fdiv s ≤ 1000000000000000000) ∧
    (-999999998000000001 ≤ s * p.fdiv s - p ∧ s * p.fdiv s - p ≤ 999999998000000001) := by
  obtain ⟨hx, hy⟩ := both_iff.1 h
  have P := parts_in hx hy
  have a := isN_iff.1 hx
  have b := isN_iff.1 hy
  have hz : x.d * y.n ≠ 0 := Int.mul_ne_zero (by omega) h0
  have q := quo_mk h h0
  have r := rem_mk h h0
  have e := Int.fmod_add_mul_fdiv (x.n * y.d) (x.d * y.n)
  have fm := fmod_in (n := x.n * y.d) (d := x.d * y.n) (A := 999999998000000001) (by omega) (by omega) hz
  have fd := fdiv_in (n := x.n * y.d) (d := x.d * y.n) (A := 999999998000000001) hz (by omega) (by omega)
  refine ⟨_, _, rfl, rfl, ?_⟩
  unfold flip1 flip2
  by_cases c : y.n < 0
  · have s0 : x.d * y.n < 0 := Int.mul_neg_of_pos_of_neg (by omega) c
    rw [if_pos c, if_pos c, Int.neg_fdiv_neg, Int.neg_mul]
    refine ⟨by omega, by omega, by omega, q, fun _ => ?_, fun k => absurd c k, by omega, by omega⟩
    rw [← r]; congr 1; omega
  · have s0 : 0 < x.d * y.n := Int.mul_pos (by omega) (by omega)
    rw [if_neg c, if_neg c]
    refine ⟨by omega, by omega, by omega, q, fun k => absurd k c, fun _ => ?_, by omega, by omega⟩
    rw [← r]; congr 1; omega

set_option maxHeartbeats 2000000 in
theorem specQuo (x y : It) (w : World) (hx : x.t.size ≤ 9223372036854775807) (hy : y.t.size ≤ 9223372036854775807) :
    Calls Try.prog 15 #[.agg #[.int .i64 x.n, .int .i64 x.d, .string x.t], .agg #[.int .i64 y.n, .int .i64 y.d, .string y.t]] w fun e w' => e = .returned (.agg #[.int .i64 (quoI x y).n, .int .i64 (quoI x y).d, .string (quoI x y).t]) ∧ Below w.heap.size w w' := by
  cases h : isN x
  · have X := Lib.hid (quo_no (y := y) (not_both1 h))
    have NX := Lib.hid (show isN ⟨x.n, x.d, x.t⟩ = false from h)
    clear h
    go_enter Try.func15, Try.ntmps15
    go_wp2_with fail
    refine (specNumNo x.n x.d x.t _ hx NX.out).mono ?_
    rintro e w1 ⟨rfl, hb⟩
    obtain ⟨hc, hf⟩ := bcell hb
    have W1 := Lib.hid hb
    have B1 := Lib.hid (below_then (below3 w _ _ _) hb)
    have G1 := Lib.hid (blk_below (g := w.heap.size + 2) hb (blk_new _ _ (by simp)))
    have hz : w.heap.size + 2 < w1.heap.size := by have := hb.size; simp at this; omega
    clear hb
    go_wp2
    rw [X.out]
    exact item_ret rfl rfl rfl G1.out ⟨rfl, below_three B1.out (by omega) _ _ _⟩
  · cases k : isN y
    · have X := Lib.hid (quo_no (x := x) (not_both2 k))
      have NX := Lib.hid (show isN ⟨x.n, x.d, x.t⟩ = true from h)
      have NY := Lib.hid (show isN ⟨y.n, y.d, y.t⟩ = false from k)
      clear h k
      go_enter Try.func15, Try.ntmps15
      go_wp2_with fail
      refine (specNumYes x.n x.d x.t _ hx NX.out).mono ?_
      rintro e w1 ⟨rfl, hb⟩
      obtain ⟨hc, hf⟩ := bcell hb
      have W1 := Lib.hid hb
      have B1 := Lib.hid (below_then (below3 w _ _ _) hb)
      have G1 := Lib.hid (blk_below (g := w.heap.size + 2) hb (blk_new _ _ (by simp)))
      have hz : w.heap.size + 2 < w1.heap.size := by have := hb.size; simp at this; omega
      clear hb
      go_wp2_with fail
      refine (specNumNo y.n y.d y.t _ hy NY.out).mono ?_
      rintro e w2 ⟨rfl, hb⟩
      have W2 := Lib.hid (W1.out.trans (hb.mono W1.out.size))
      clear hc hf
      obtain ⟨hc2, hf2⟩ := bcell W2.out
      have B2 := Lib.hid (below_then B1.out hb)
      have G2 := Lib.hid (blk_below hb G1.out)
      have hz2 : w.heap.size + 2 < w2.heap.size := by have := hb.size; omega
      clear hb
      go_wp2
      rw [X.out]
      exact item_ret rfl rfl rfl G2.out ⟨rfl, below_three B2.out (by omega) _ _ _⟩
    · have hB : both x y = true := both_iff.2 ⟨h, k⟩
      have P := parts_in h k
      have NX := Lib.hid (show isN ⟨x.n, x.d, x.t⟩ = true from h)
      have NY := Lib.hid (show isN ⟨y.n, y.d, y.t⟩ = true from k)
      by_cases h0 : y.n = 0
      · have X := Lib.hid (quo_no0 (x := x) h0)
        have h0' : (y.n == 0) = true := by simp [h0]
        clear h k hB P h0
        go_enter Try.func15, Try.ntmps15
        go_wp2_with fail
        refine (specNumYes x.n x.d x.t _ hx NX.out).mono ?_
        rintro e w1 ⟨rfl, hb⟩
        obtain ⟨hc, hf⟩ := bcell hb
        have W1 := Lib.hid hb
        have B1 := Lib.hid (below_then (below3 w _ _ _) hb)
        have G1 := Lib.hid (blk_below (g := w.heap.size + 2) hb (blk_new _ _ (by simp)))
        have hz : w.heap.size + 2 < w1.heap.size := by have := hb.size; simp at this; omega
        clear hb
        go_wp2_with fail
        refine (specNumYes y.n y.d y.t _ hy NY.out).mono ?_
        rintro e w2 ⟨rfl, hb⟩
        have W2 := Lib.hid (W1.out.trans (hb.mono W1.out.size))
        clear hc hf
        obtain ⟨hc2, hf2⟩ := bcell W2.out
        have B2 := Lib.hid (below_then B1.out hb)
        have G2 := Lib.hid (blk_below hb G1.out)
        have hz2 : w.heap.size + 2 < w2.heap.size := by have := hb.size; omega
        clear hb
        go_wp2
        rw [X.out]
        exact item_ret rfl rfl rfl G2.out ⟨rfl, below_three B2.out (by omega) _ _ _⟩
      · have h0' : (y.n == 0) = false := by simp [h0]
        have dx := (isN_iff.1 h).2.1
        have C := Lib.hid (fun W => specParts x y W dx ⟨by omega, by omega⟩)
        obtain ⟨p, s, e1, e2, ⟨p0, p1⟩, s0, s1, q1, r1, r2, ⟨f0, f1⟩, ⟨g0, g1⟩⟩ := flip_facts hB h0
        rw [e1, e2] at C
        have XT := Lib.hid (quoS_t x y)
        have X := Lib.hid q1
        clear h k hB P h0 e1 e2 q1 r1 r2
        go_enter Try.func15, Try.ntmps15
        go_wp2_with fail
        refine (specNumYes x.n x.d x.t _ hx NX.out).mono ?_
        rintro e w1 ⟨rfl, hb⟩
        obtain ⟨hc, hf⟩ := bcell hb
        have W1 := Lib.hid hb
        have B1 := Lib.hid (below_then (below3 w _ _ _) hb)
        have G1 := Lib.hid (blk_below (g := w.heap.size + 2) hb (blk_new _ _ (by simp)))
        have hz : w.heap.size + 2 < w1.heap.size := by have := hb.size; simp at this; omega
        clear hb
        go_wp2_with fail
        refine (specNumYes y.n y.d y.t _ hy NY.out).mono ?_
        rintro e w2 ⟨rfl, hb⟩
        have W2 := Lib.hid (W1.out.trans (hb.mono W1.out.size))
        clear hc hf
        obtain ⟨hc2, hf2⟩ := bcell W2.out
        have B2 := Lib.hid (below_then B1.out hb)
        have G2 := Lib.hid (blk_below hb G1.out)
        have hz2 : w.heap.size + 2 < w2.heap.size := by have := hb.size; omega
        clear hb
        go_wp2_with fail
        refine (C.out _).mono ?_
        rintro e w3 ⟨rfl, hb⟩
        have W3 := Lib.hid (W2.out.trans (hb.mono W2.out.size))
        clear hc2 hf2
        obtain ⟨hc3, hf3⟩ := bcell W3.out
        have B3 := Lib.hid (below_then B2.out hb)
        have G3 := Lib.hid (blk_below hb G2.out)
        have hz3 : w.heap.size + 2 < w3.heap.size := by have := hb.size; omega
        clear hb
        go_wp2_with fail
        refine (specFl p s _ (by omega) (by omega) s0 (by omega)).mono ?_
        rintro e w' ⟨rfl, rfl⟩
        go_wp2_with fail
        refine (specMake (p.fdiv s) 1 _ ⟨by omega, by omega⟩ ⟨by omega, by omega⟩).mono ?_
        rintro e w4 ⟨rfl, hb⟩
        have W4 := Lib.hid (W3.out.trans (hb.mono W3.out.size))
        clear hc3 hf3
        obtain ⟨hc4, hf4⟩ := bcell W4.out
        have B4 := Lib.hid (below_then B3.out hb)
        have G4 := Lib.hid (blk_below hb G3.out)
        clear hb
        rw [X.out]
        go_wp2
        rw [XT.out]
        exact item_ret rfl rfl rfl G4.out ⟨rfl, below_three B4.out (by omega) _ _ _⟩

set_option maxHeartbeats 2000000 in
theorem specRem (x y : It) (w : World) (hx : x.t.size ≤ 9223372036854775807) (hy : y.t.size ≤ 9223372036854775807) :
    Calls Try.prog 16 #[.agg #[.int .i64 x.n, .int .i64 x.d, .string x.t], .agg #[.int .i64 y.n, .int .i64 y.d, .string y.t]] w fun e w' => e = .returned (.agg #[.int .i64 (remI x y).n, .int .i64 (remI x y).d, .string (remI x y).t]) ∧ Below w.heap.size w w' := by
  cases h : isN x
  · have X := Lib.hid (rem_no (y := y) (not_both1 h))
    have NX := Lib.hid (show isN ⟨x.n, x.d, x.t⟩ = false from h)
    clear h
    go_enter Try.func16, Try.ntmps16
    go_wp2_with fail
    refine (specNumNo x.n x.d x.t _ hx NX.out).mono ?_
    rintro e w1 ⟨rfl, hb⟩
    obtain ⟨hc, hf⟩ := bcell hb
    have W1 := Lib.hid hb
    have B1 := Lib.hid (below_then (below3 w _ _ _) hb)
    have G1 := Lib.hid (blk_below (g := w.heap.size + 2) hb (blk_new _ _ (by simp)))
    have hz : w.heap.size + 2 < w1.heap.size := by have := hb.size; simp at this; omega
    clear hb
    go_wp2
    rw [X.out]
    exact item_ret rfl rfl rfl G1.out ⟨rfl, below_three B1.out (by omega) _ _ _⟩
  · cases k : isN y
    · have X := Lib.hid (rem_no (x := x) (not_both2 k))
      have NX := Lib.hid (show isN ⟨x.n, x.d, x.t⟩ = true from h)
      have NY := Lib.hid (show isN ⟨y.n, y.d, y.t⟩ = false from k)
      clear h k
      go_enter Try.func16, Try.ntmps16
      go_wp2_with fail
      refine (specNumYes x.n x.d x.t _ hx NX.out).mono ?_
      rintro e w1 ⟨rfl, hb⟩
      obtain ⟨hc, hf⟩ := bcell hb
      have W1 := Lib.hid hb
      have B1 := Lib.hid (below_then (below3 w _ _ _) hb)
      have G1 := Lib.hid (blk_below (g := w.heap.size + 2) hb (blk_new _ _ (by simp)))
      have hz : w.heap.size + 2 < w1.heap.size := by have := hb.size; simp at this; omega
      clear hb
      go_wp2_with fail
      refine (specNumNo y.n y.d y.t _ hy NY.out).mono ?_
      rintro e w2 ⟨rfl, hb⟩
      have W2 := Lib.hid (W1.out.trans (hb.mono W1.out.size))
      clear hc hf
      obtain ⟨hc2, hf2⟩ := bcell W2.out
      have B2 := Lib.hid (below_then B1.out hb)
      have G2 := Lib.hid (blk_below hb G1.out)
      have hz2 : w.heap.size + 2 < w2.heap.size := by have := hb.size; omega
      clear hb
      go_wp2
      rw [X.out]
      exact item_ret rfl rfl rfl G2.out ⟨rfl, below_three B2.out (by omega) _ _ _⟩
    · have hB : both x y = true := both_iff.2 ⟨h, k⟩
      have P := parts_in h k
      have NX := Lib.hid (show isN ⟨x.n, x.d, x.t⟩ = true from h)
      have NY := Lib.hid (show isN ⟨y.n, y.d, y.t⟩ = true from k)
      by_cases h0 : y.n = 0
      · have X := Lib.hid (rem_no0 (x := x) h0)
        have h0' : (y.n == 0) = true := by simp [h0]
        clear h k hB P h0
        go_enter Try.func16, Try.ntmps16
        go_wp2_with fail
        refine (specNumYes x.n x.d x.t _ hx NX.out).mono ?_
        rintro e w1 ⟨rfl, hb⟩
        obtain ⟨hc, hf⟩ := bcell hb
        have W1 := Lib.hid hb
        have B1 := Lib.hid (below_then (below3 w _ _ _) hb)
        have G1 := Lib.hid (blk_below (g := w.heap.size + 2) hb (blk_new _ _ (by simp)))
        have hz : w.heap.size + 2 < w1.heap.size := by have := hb.size; simp at this; omega
        clear hb
        go_wp2_with fail
        refine (specNumYes y.n y.d y.t _ hy NY.out).mono ?_
        rintro e w2 ⟨rfl, hb⟩
        have W2 := Lib.hid (W1.out.trans (hb.mono W1.out.size))
        clear hc hf
        obtain ⟨hc2, hf2⟩ := bcell W2.out
        have B2 := Lib.hid (below_then B1.out hb)
        have G2 := Lib.hid (blk_below hb G1.out)
        have hz2 : w.heap.size + 2 < w2.heap.size := by have := hb.size; omega
        clear hb
        go_wp2
        rw [X.out]
        exact item_ret rfl rfl rfl G2.out ⟨rfl, below_three B2.out (by omega) _ _ _⟩
      · have h0' : (y.n == 0) = false := by simp [h0]
        have dx := (isN_iff.1 h).2.1
        have C := Lib.hid (fun W => specParts x y W dx ⟨by omega, by omega⟩)
        obtain ⟨p, s, e1, e2, ⟨p0, p1⟩, s0, s1, q1, r1, r2, ⟨f0, f1⟩, ⟨g0, g1⟩⟩ := flip_facts hB h0
        rw [e1, e2] at C
        have XT := Lib.hid (remS_t x y)
        have c0 : 1 ≤ x.d * y.d := by omega
        have c1 : x.d * y.d ≤ 999999998000000001 := by omega
        have t0 : -1999999996000000002 ≤ s * p.fdiv s := by omega
        have t1 : s * p.fdiv s ≤ 1999999996000000002 := by omega
        by_cases c : y.n < 0
        · have X := Lib.hid (r1 c)
          clear h k hB P h0 e1 e2 q1 r1 r2
          go_enter Try.func16, Try.ntmps16
          go_wp2_with fail
          refine (specNumYes x.n x.d x.t _ hx NX.out).mono ?_
          rintro e w1 ⟨rfl, hb⟩
          obtain ⟨hc, hf⟩ := bcell hb
          have W1 := Lib.hid hb
          have B1 := Lib.hid (below_then (below3 w _ _ _) hb)
          have G1 := Lib.hid (blk_below (g := w.heap.size + 2) hb (blk_new _ _ (by simp)))
          have hz : w.heap.size + 2 < w1.heap.size := by have := hb.size; simp at this; omega
          clear hb
          go_wp2_with fail
          refine (specNumYes y.n y.d y.t _ hy NY.out).mono ?_
          rintro e w2 ⟨rfl, hb⟩
          have W2 := Lib.hid (W1.out.trans (hb.mono W1.out.size))
          clear hc hf
          obtain ⟨hc2, hf2⟩ := bcell W2.out
          have B2 := Lib.hid (below_then B1.out hb)
          have G2 := Lib.hid (blk_below hb G1.out)
          have hz2 : w.heap.size + 2 < w2.heap.size := by have := hb.size; omega
          clear hb
          go_wp2_with fail
          refine (C.out _).mono ?_
          rintro e w3 ⟨rfl, hb⟩
          have W3 := Lib.hid (W2.out.trans (hb.mono W2.out.size))
          clear hc2 hf2
          obtain ⟨hc3, hf3⟩ := bcell W3.out
          have B3 := Lib.hid (below_then B2.out hb)
          have G3 := Lib.hid (blk_below hb G2.out)
          have hz3 : w.heap.size + 2 < w3.heap.size := by have := hb.size; omega
          clear hb
          go_wp2_with fail
          refine (specFl p s _ (by omega) (by omega) s0 (by omega)).mono ?_
          rintro e w' ⟨rfl, rfl⟩
          go_wp2_with fail
          refine (specMake (-(p - s * p.fdiv s)) (x.d * y.d) _ ⟨by omega, by omega⟩ ⟨by omega, by omega⟩).mono ?_
          rintro e w4 ⟨rfl, hb⟩
          have W4 := Lib.hid (W3.out.trans (hb.mono W3.out.size))
          clear hc3 hf3
          obtain ⟨hc4, hf4⟩ := bcell W4.out
          have B4 := Lib.hid (below_then B3.out hb)
          have G4 := Lib.hid (blk_below hb G3.out)
          clear hb
          rw [X.out]
          go_wp2
          rw [XT.out]
          exact item_ret rfl rfl rfl G4.out ⟨rfl, below_three B4.out (by omega) _ _ _⟩
        · have X := Lib.hid (r2 c)
          clear h k hB P h0 e1 e2 q1 r1 r2
          go_enter Try.func16, Try.ntmps16
          go_wp2_with fail
          refine (specNumYes x.n x.d x.t _ hx NX.out).mono ?_
          rintro e w1 ⟨rfl, hb⟩
          obtain ⟨hc, hf⟩ := bcell hb
          have W1 := Lib.hid hb
          have B1 := Lib.hid (below_then (below3 w _ _ _) hb)
          have G1 := Lib.hid (blk_below (g := w.heap.size + 2) hb (blk_new _ _ (by simp)))
          have hz : w.heap.size + 2 < w1.heap.size := by have := hb.size; simp at this; omega
          clear hb
          go_wp2_with fail
          refine (specNumYes y.n y.d y.t _ hy NY.out).mono ?_
          rintro e w2 ⟨rfl, hb⟩
          have W2 := Lib.hid (W1.out.trans (hb.mono W1.out.size))
          clear hc hf
          obtain ⟨hc2, hf2⟩ := bcell W2.out
          have B2 := Lib.hid (below_then B1.out hb)
          have G2 := Lib.hid (blk_below hb G1.out)
          have hz2 : w.heap.size + 2 < w2.heap.size := by have := hb.size; omega
          clear hb
          go_wp2_with fail
          refine (C.out _).mono ?_
          rintro e w3 ⟨rfl, hb⟩
          have W3 := Lib.hid (W2.out.trans (hb.mono W2.out.size))
          clear hc2 hf2
          obtain ⟨hc3, hf3⟩ := bcell W3.out
          have B3 := Lib.hid (below_then B2.out hb)
          have G3 := Lib.hid (blk_below hb G2.out)
          have hz3 : w.heap.size + 2 < w3.heap.size := by have := hb.size; omega
          clear hb
          go_wp2_with fail
          refine (specFl p s _ (by omega) (by omega) s0 (by omega)).mono ?_
          rintro e w' ⟨rfl, rfl⟩
          go_wp2_with fail
          refine (specMake (p - s * p.fdiv s) (x.d * y.d) _ ⟨by omega, by omega⟩ ⟨by omega, by omega⟩).mono ?_
          rintro e w4 ⟨rfl, hb⟩
          have W4 := Lib.hid (W3.out.trans (hb.mono W3.out.size))
          clear hc3 hf3
          obtain ⟨hc4, hf4⟩ := bcell W4.out
          have B4 := Lib.hid (below_then B3.out hb)
          have G4 := Lib.hid (blk_below hb G3.out)
          clear hb
          rw [X.out]
          go_wp2
          rw [XT.out]
          exact item_ret rfl rfl rfl G4.out ⟨rfl, below_three B4.out (by omega) _ _ _⟩
end Go.Proofs.Ytmglolpiekbnpaa
