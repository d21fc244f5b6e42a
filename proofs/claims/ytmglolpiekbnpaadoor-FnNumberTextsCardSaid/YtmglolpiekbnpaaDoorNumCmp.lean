/- CompareNumbers: the program's and the reference's. -/
import Derived.Test.YtmglolpiekbnpaaDoorNumSpec
import Derived.Test.YtmglolpiekbnpaaDoorNumImpl2
import Derived.RegionTactic
namespace Go.Proofs.YtmglolpiekbnpaaDoor
set_option maxRecDepth 100000
open Go.RowKit
set_option linter.unusedVariables false

theorem cmp_no {x y : It} (h : both x y = false) : cmpI x y = 2 := by unfold cmpI; simp [h]
theorem cmp_lt {x y : It} (h : both x y = true) (k : x.n * y.d < y.n * x.d) : cmpI x y = -1 := by unfold cmpI; rw [if_pos h, if_pos k]
theorem cmp_eq {x y : It} (h : both x y = true) (k : x.n * y.d = y.n * x.d) : cmpI x y = 0 := by unfold cmpI; rw [if_pos h, if_neg (by omega), if_pos k]
theorem cmp_gt {x y : It} (h : both x y = true) (k : y.n * x.d < x.n * y.d) : cmpI x y = 1 := by unfold cmpI; rw [if_pos h, if_neg (by omega), if_neg (by omega)]
theorem both_tx {x y : It} (h : both x y = true) : x.t = ⟨#[]⟩ := (isN_iff.1 (both_iff.1 h).1).1
theorem both_ty {x y : It} (h : both x y = true) : y.t = ⟨#[]⟩ := (isN_iff.1 (both_iff.1 h).2).1

set_option maxHeartbeats 4000000 in
theorem implCmp (x y : It) (w : World) (hx : x.t.size ≤ 9223372036854775807) (hy : y.t.size ≤ 9223372036854775807) :
    Calls Tryd.prog 16 #[.agg #[.int .i64 x.n, .int .i64 x.d, .string x.t], .agg #[.int .i64 y.n, .int .i64 y.d, .string y.t]] w fun e w' => e = .returned (.int .i64 (cmpI x y)) ∧ Below w.heap.size w w' := by
  cases h : both x y
  · have X := Lib.hid (cmp_no h)
    have N := Lib.hid h
    clear h
    go_enter Tryd.func16, Tryd.ntmps16
    go_wp2_with fail
    refine (areNo x y _ hx hy N.out).mono ?_
    rintro e w1 ⟨rfl, hb⟩
    obtain ⟨hc, hf⟩ := bcell hb
    have B1 := Lib.hid (below_then (below2 w _ _) hb)
    have GX := Lib.hid (blk_below (g := w.heap.size) hb (blk_old (blk_new _ _ rfl)))
    have GY := Lib.hid (blk_below (g := w.heap.size + 1) hb (blk_new _ _ (by simp)))
    clear hb
    go_wp2
    go_ret
    exact ⟨ret_i X.out.symm, B1.out⟩
  · have P := parts_in (both_iff.1 h).1 (both_iff.1 h).2
    have N := Lib.hid h
    have a0 : -999999998000000001 ≤ x.n * y.d := by omega
    have a1 : x.n * y.d ≤ 999999998000000001 := by omega
    have b0 : -999999998000000001 ≤ y.n * x.d := by omega
    have b1 : y.n * x.d ≤ 999999998000000001 := by omega
    have TX := Lib.hid (both_tx h)
    have TY := Lib.hid (both_ty h)
    by_cases q : x.n = y.n ∧ x.d = y.d
    · have X := Lib.hid (cmp_eq h (by rw [q.1, q.2]))
      obtain ⟨q1, q2⟩ := q
      obtain ⟨xn, xd, xt⟩ := x
      obtain ⟨yn, yd, yt⟩ := y
      obtain rfl : xn = yn := q1
      obtain rfl : xd = yd := q2
      obtain rfl : xt = ⟨#[]⟩ := TX.out
      obtain rfl : yt = ⟨#[]⟩ := TY.out
      clear h P TX TY
      go_enter Tryd.func16, Tryd.ntmps16
      go_wp2_with fail
      refine (areYes ⟨xn, xd, ⟨#[]⟩⟩ ⟨xn, xd, ⟨#[]⟩⟩ _ hx hy N.out).mono ?_
      rintro e w1 ⟨rfl, hb⟩
      obtain ⟨hc, hf⟩ := bcell hb
      have B1 := Lib.hid (below_then (below2 w _ _) hb)
      have GX := Lib.hid (blk_below (g := w.heap.size) hb (blk_old (blk_new _ _ rfl)))
      have GY := Lib.hid (blk_below (g := w.heap.size + 1) hb (blk_new _ _ (by simp)))
      clear hb
      go_wp2
      go_ret
      exact ⟨ret_i X.out.symm, B1.out⟩
    · have qq : ¬ x.n * y.d = y.n * x.d := fun e => q (by have := cross_eq h e; subst this; exact ⟨rfl, rfl⟩)
      have X1 := Lib.hid (fun k => cmp_lt h k)
      have X2 := Lib.hid (fun k => cmp_gt h k)
      obtain ⟨xn, xd, xt⟩ := x
      obtain ⟨yn, yd, yt⟩ := y
      obtain rfl : xt = ⟨#[]⟩ := TX.out
      obtain rfl : yt = ⟨#[]⟩ := TY.out
      dsimp only at *
      clear h P TX TY
      have q' : (xn ≠ yn) ∨ (1 ≤ 1 ∧ xn = yn ∧ xd ≠ yd) := by omega
      have Q := Lib.hid q'
      clear q q'
      by_cases s : xn * yd < yn * xd
      · have X := Lib.hid (X1.out s)
        clear X1 X2
        rcases Q.out with q | ⟨_, q0, q⟩
        · go_enter Tryd.func16, Tryd.ntmps16
          go_wp2_with fail
          refine (areYes ⟨xn, xd, ⟨#[]⟩⟩ ⟨yn, yd, ⟨#[]⟩⟩ _ hx hy N.out).mono ?_
          rintro e w1 ⟨rfl, hb⟩
          obtain ⟨hc, hf⟩ := bcell hb
          have B1 := Lib.hid (below_then (below2 w _ _) hb)
          have GX := Lib.hid (blk_below (g := w.heap.size) hb (blk_old (blk_new _ _ rfl)))
          have GY := Lib.hid (blk_below (g := w.heap.size + 1) hb (blk_new _ _ (by simp)))
          clear hb
          go_wp2
          go_ret
          exact ⟨ret_i X.out.symm, B1.out⟩
        · subst q0
          go_enter Tryd.func16, Tryd.ntmps16
          go_wp2_with fail
          refine (areYes ⟨xn, xd, ⟨#[]⟩⟩ ⟨xn, yd, ⟨#[]⟩⟩ _ hx hy N.out).mono ?_
          rintro e w1 ⟨rfl, hb⟩
          obtain ⟨hc, hf⟩ := bcell hb
          have B1 := Lib.hid (below_then (below2 w _ _) hb)
          have GX := Lib.hid (blk_below (g := w.heap.size) hb (blk_old (blk_new _ _ rfl)))
          have GY := Lib.hid (blk_below (g := w.heap.size + 1) hb (blk_new _ _ (by simp)))
          clear hb
          go_wp2
          go_ret
          exact ⟨ret_i X.out.symm, B1.out⟩
      · have X := Lib.hid (X2.out (by omega))
        clear X1 X2
        rcases Q.out with q | ⟨_, q0, q⟩
        · go_enter Tryd.func16, Tryd.ntmps16
          go_wp2_with fail
          refine (areYes ⟨xn, xd, ⟨#[]⟩⟩ ⟨yn, yd, ⟨#[]⟩⟩ _ hx hy N.out).mono ?_
          rintro e w1 ⟨rfl, hb⟩
          obtain ⟨hc, hf⟩ := bcell hb
          have B1 := Lib.hid (below_then (below2 w _ _) hb)
          have GX := Lib.hid (blk_below (g := w.heap.size) hb (blk_old (blk_new _ _ rfl)))
          have GY := Lib.hid (blk_below (g := w.heap.size + 1) hb (blk_new _ _ (by simp)))
          clear hb
          go_wp2
          go_ret
          exact ⟨ret_i X.out.symm, B1.out⟩
        · subst q0
          go_enter Tryd.func16, Tryd.ntmps16
          go_wp2_with fail
          refine (areYes ⟨xn, xd, ⟨#[]⟩⟩ ⟨xn, yd, ⟨#[]⟩⟩ _ hx hy N.out).mono ?_
          rintro e w1 ⟨rfl, hb⟩
          obtain ⟨hc, hf⟩ := bcell hb
          have B1 := Lib.hid (below_then (below2 w _ _) hb)
          have GX := Lib.hid (blk_below (g := w.heap.size) hb (blk_old (blk_new _ _ rfl)))
          have GY := Lib.hid (blk_below (g := w.heap.size + 1) hb (blk_new _ _ (by simp)))
          clear hb
          go_wp2
          go_ret
          exact ⟨ret_i X.out.symm, B1.out⟩


set_option maxHeartbeats 4000000 in
theorem specCmp (x y : It) (w : World) (hx : x.t.size ≤ 9223372036854775807) (hy : y.t.size ≤ 9223372036854775807) :
    Calls Tryd.prog 17 #[.agg #[.int .i64 x.n, .int .i64 x.d, .string x.t], .agg #[.int .i64 y.n, .int .i64 y.d, .string y.t]] w fun e w' => e = .returned (.int .i64 (cmpI x y)) ∧ Below w.heap.size w w' := by
  cases h : isN x
  · have X := Lib.hid (cmp_no (y := y) (not_both1 h))
    have NX := Lib.hid (show isN ⟨x.n, x.d, x.t⟩ = false from h)
    clear h
    go_enter Tryd.func17, Tryd.ntmps17
    go_wp2_with fail
    refine (specNumNo x.n x.d x.t _ hx NX.out).mono ?_
    rintro e w1 ⟨rfl, hb⟩
    obtain ⟨hc, hf⟩ := bcell hb
    have W1 := Lib.hid hb
    have B1 := Lib.hid (below_then (below2 w _ _) hb)
    clear hb
    go_wp2
    go_ret
    exact ⟨ret_i X.out.symm, B1.out⟩
  · cases k : isN y
    · have X := Lib.hid (cmp_no (x := x) (not_both2 k))
      have NX := Lib.hid (show isN ⟨x.n, x.d, x.t⟩ = true from h)
      have NY := Lib.hid (show isN ⟨y.n, y.d, y.t⟩ = false from k)
      clear h k
      go_enter Tryd.func17, Tryd.ntmps17
      go_wp2_with fail
      refine (specNumYes x.n x.d x.t _ hx NX.out).mono ?_
      rintro e w1 ⟨rfl, hb⟩
      obtain ⟨hc, hf⟩ := bcell hb
      have W1 := Lib.hid hb
      have B1 := Lib.hid (below_then (below2 w _ _) hb)
      clear hb
      go_wp2_with fail
      refine (specNumNo y.n y.d y.t _ hy NY.out).mono ?_
      rintro e w2 ⟨rfl, hb⟩
      have W2 := Lib.hid (W1.out.trans (hb.mono W1.out.size))
      clear hc hf
      obtain ⟨hc2, hf2⟩ := bcell W2.out
      have B2 := Lib.hid (below_then B1.out hb)
      clear hb
      go_wp2
      go_ret
      exact ⟨ret_i X.out.symm, B2.out⟩
    · have hB : both x y = true := both_iff.2 ⟨h, k⟩
      have P := parts_in h k
      have NX := Lib.hid (show isN ⟨x.n, x.d, x.t⟩ = true from h)
      have NY := Lib.hid (show isN ⟨y.n, y.d, y.t⟩ = true from k)
      have a0 : -999999998000000001 ≤ x.n * y.d := by omega
      have a1 : x.n * y.d ≤ 999999998000000001 := by omega
      have b0 : -999999998000000001 ≤ y.n * x.d := by omega
      have b1 : y.n * x.d ≤ 999999998000000001 := by omega
      by_cases s : x.n * y.d - y.n * x.d < 0
      · have X := Lib.hid (cmp_lt hB (by omega))
        clear h k hB P
        go_enter Tryd.func17, Tryd.ntmps17
        go_wp2_with fail
        refine (specNumYes x.n x.d x.t _ hx NX.out).mono ?_
        rintro e w1 ⟨rfl, hb⟩
        obtain ⟨hc, hf⟩ := bcell hb
        have W1 := Lib.hid hb
        have B1 := Lib.hid (below_then (below2 w _ _) hb)
        clear hb
        go_wp2_with fail
        refine (specNumYes y.n y.d y.t _ hy NY.out).mono ?_
        rintro e w2 ⟨rfl, hb⟩
        have W2 := Lib.hid (W1.out.trans (hb.mono W1.out.size))
        clear hc hf
        obtain ⟨hc2, hf2⟩ := bcell W2.out
        have B2 := Lib.hid (below_then B1.out hb)
        clear hb
        go_wp2
        go_ret
        exact ⟨ret_i X.out.symm, B2.out⟩
      · by_cases s1 : x.n * y.d - y.n * x.d = 0
        · have s2 : ¬ 1 ≤ x.n * y.d - y.n * x.d := by omega
          have X := Lib.hid (cmp_eq hB (by omega))
          clear h k hB P
          go_enter Tryd.func17, Tryd.ntmps17
          go_wp2_with fail
          refine (specNumYes x.n x.d x.t _ hx NX.out).mono ?_
          rintro e w1 ⟨rfl, hb⟩
          obtain ⟨hc, hf⟩ := bcell hb
          have W1 := Lib.hid hb
          have B1 := Lib.hid (below_then (below2 w _ _) hb)
          clear hb
          go_wp2_with fail
          refine (specNumYes y.n y.d y.t _ hy NY.out).mono ?_
          rintro e w2 ⟨rfl, hb⟩
          have W2 := Lib.hid (W1.out.trans (hb.mono W1.out.size))
          clear hc hf
          obtain ⟨hc2, hf2⟩ := bcell W2.out
          have B2 := Lib.hid (below_then B1.out hb)
          clear hb
          go_wp2
          go_ret
          exact ⟨ret_i X.out.symm, B2.out⟩
        · have s2 : 1 ≤ x.n * y.d - y.n * x.d := by omega
          by_cases s3 : x.n * y.d - y.n * x.d ≤ 1
          · have X := Lib.hid (show cmpI x y = x.n * y.d - y.n * x.d by rw [cmp_gt hB (by omega)]; omega)
            clear h k hB P
            go_enter Tryd.func17, Tryd.ntmps17
            go_wp2_with fail
            refine (specNumYes x.n x.d x.t _ hx NX.out).mono ?_
            rintro e w1 ⟨rfl, hb⟩
            obtain ⟨hc, hf⟩ := bcell hb
            have W1 := Lib.hid hb
            have B1 := Lib.hid (below_then (below2 w _ _) hb)
            clear hb
            go_wp2_with fail
            refine (specNumYes y.n y.d y.t _ hy NY.out).mono ?_
            rintro e w2 ⟨rfl, hb⟩
            have W2 := Lib.hid (W1.out.trans (hb.mono W1.out.size))
            clear hc hf
            obtain ⟨hc2, hf2⟩ := bcell W2.out
            have B2 := Lib.hid (below_then B1.out hb)
            clear hb
            go_wp2
            go_ret
            exact ⟨ret_i X.out.symm, B2.out⟩
          · have X := Lib.hid (cmp_gt hB (by omega))
            clear h k hB P
            go_enter Tryd.func17, Tryd.ntmps17
            go_wp2_with fail
            refine (specNumYes x.n x.d x.t _ hx NX.out).mono ?_
            rintro e w1 ⟨rfl, hb⟩
            obtain ⟨hc, hf⟩ := bcell hb
            have W1 := Lib.hid hb
            have B1 := Lib.hid (below_then (below2 w _ _) hb)
            clear hb
            go_wp2_with fail
            refine (specNumYes y.n y.d y.t _ hy NY.out).mono ?_
            rintro e w2 ⟨rfl, hb⟩
            have W2 := Lib.hid (W1.out.trans (hb.mono W1.out.size))
            clear hc hf
            obtain ⟨hc2, hf2⟩ := bcell W2.out
            have B2 := Lib.hid (below_then B1.out hb)
            clear hb
            go_wp2
            go_ret
            exact ⟨ret_i X.out.symm, B2.out⟩
end Go.Proofs.YtmglolpiekbnpaaDoor
