/- CompareNumbers: the program's and the reference's. -/
import Derived.Test.YtmglolpiekbnpaaNumSpec
import Derived.Test.YtmglolpiekbnpaaNumImpl2
import Derived.RegionTactic
namespace Go.Proofs.Ytmglolpiekbnpaa
open Go.RowKit
set_option linter.unusedVariables false

theorem cmp_no {x y : It} (h : both x y = false) : cmpI x y = 2 := by unfold cmpI; simp [h]
theorem cmp_lt {x y : It} (h : both x y = true) (k : x.n * y.d < y.n * x.d) : cmpI x y = -1 := by unfold cmpI; rw [if_pos h, if_pos k]
theorem cmp_eq {x y : It} (h : both x y = true) (k : x.n * y.d = y.n * x.d) : cmpI x y = 0 := by unfold cmpI; rw [if_pos h, if_neg (by omega), if_pos k]
theorem cmp_gt {x y : It} (h : both x y = true) (k : y.n * x.d < x.n * y.d) : cmpI x y = 1 := by unfold cmpI; rw [if_pos h, if_neg (by omega), if_neg (by omega)]
theorem both_tx {x y : It} (h : both x y = true) : x.t = ⟨#[]⟩ := (isN_iff.1 (both_iff.1 h).1).1
theorem both_ty {x y : It} (h : both x y = true) : y.t = ⟨#[]⟩ := (isN_iff.1 (both_iff.1 h).2).1

set_option maxHeartbeats 4000000 in
theorem specCmp (x y : It) (w : World) (hx : x.t.size ≤ 9223372036854775807) (hy : y.t.size ≤ 9223372036854775807) :
    Calls Try.prog 19 #[.agg #[.int .i64 x.n, .int .i64 x.d, .string x.t], .agg #[.int .i64 y.n, .int .i64 y.d, .string y.t]] w fun e w' => e = .returned (.int .i64 (cmpI x y)) ∧ Below w.heap.size w w' := by
  cases h : isN x
  · have X := Lib.hid (cmp_no (y := y) (not_both1 h))
    have NX := Lib.hid (show isN ⟨x.n, x.d, x.t⟩ = false from h)
    clear h
    go_enter Try.func19, Try.ntmps19
    go_wp2_with fail
    refine (specNumNo x.n x.d x.t _ hx NX.out).mono ?_
    rintro e w1 ⟨rfl, hb⟩
    obtain ⟨hc, hf⟩ := bcell hb
    have W1 := Lib.hid hb
    have B1 := Lib.hid (below_then (below2 w _ _) hb)
    clear hb
    go_wp2
    go_ret
    exact ⟨ret_i X.out.symm, B1.out⟩
  · cases k : isN y
    · have X := Lib.hid (cmp_no (x := x) (not_both2 k))
      have NX := Lib.hid (show isN ⟨x.n, x.d, x.t⟩ = true from h)
      have NY := Lib.hid (show isN ⟨y.n, y.d, y.t⟩ = false from k)
      clear h k
      go_enter Try.func19, Try.ntmps19
      go_wp2_with fail
      refine (specNumYes x.n x.d x.t _ hx NX.out).mono ?_
      rintro e w1 ⟨rfl, hb⟩
      obtain ⟨hc, hf⟩ := bcell hb
      have W1 := Lib.hid hb
      have B1 := Lib.hid (below_then (below2 w _ _) hb)
      clear hb
      go_wp2_with fail
      refine (specNumNo y.n y.d y.t _ hy NY.out).mono ?_
      rintro e w2 ⟨rfl, hb⟩
      have W2 := Lib.hid (W1.out.trans (hb.mono W1.out.size))
      clear hc hf
      obtain ⟨hc2, hf2⟩ := bcell W2.out
      have B2 := Lib.hid (below_then B1.out hb)
      clear hb
      go_wp2
      go_ret
      exact ⟨ret_i X.out.symm, B2.out⟩
    · have hB : both x y = true := both_iff.2 ⟨h, k⟩
      have P := parts_in h k
      have NX := Lib.hid (show isN ⟨x.n, x.d, x.t⟩ = true from h)
      have NY := Lib.hid (show isN ⟨y.n, y.d, y.t⟩ = true from k)
      have a0 : -999999998000000001 ≤ x.n * y.d := by omega
      have a1 : x.n * y.d ≤ 999999998000000001 := by omega
      have b0 : -999999998000000001 ≤ y.n * x.d := by omega
      have b1 : y.n * x.d ≤ 999999998000000001 := by omega
      by_cases s : x.n * y.d - y.n * x.d < 0
      · have X := Lib.hid (cmp_lt hB (by omega))
        clear h k hB P
        go_enter Try.func19, Try.ntmps19
        go_wp2_with fail
        refine (specNumYes x.n x.d x.t _ hx NX.out).mono ?_
        rintro e w1 ⟨rfl, hb⟩
        obtain ⟨hc, hf⟩ := bcell hb
        have W1 := Lib.hid hb
        have B1 := Lib.hid (below_then (below2 w _ _) hb)
        clear hb
        go_wp2_with fail
        refine (specNumYes y.n y.d y.t _ hy NY.out).mono ?_
        rintro e w2 ⟨rfl, hb⟩
        have W2 := Lib.hid (W1.out.trans (hb.mono W1.out.size))
        clear hc hf
        obtain ⟨hc2, hf2⟩ := bcell W2.out
        have B2 := Lib.hid (below_then B1.out hb)
        clear hb
        go_wp2
        go_ret
        exact ⟨ret_i X.out.symm, B2.out⟩
      · by_cases s1 : x.n * y.d - y.n * x.d = 0
        · have s2 : ¬ 1 ≤ x.n * y.d - y.n * x.d := by omega
          have X := Lib.hid (cmp_eq hB (by omega))
          clear h k hB P
          go_enter Try.func19, Try.ntmps19
          go_wp2_with fail
          refine (specNumYes x.n x.d x.t _ hx NX.out).mono ?_
          rintro e w1 ⟨rfl, hb⟩
          obtain ⟨hc, hf⟩ := bcell hb
          have W1 := Lib.hid hb
          have B1 := Lib.hid (below_then (below2 w _ _) hb)
          clear hb
          go_wp2_with fail
          refine (specNumYes y.n y.d y.t _ hy NY.out).mono ?_
          rintro e w2 ⟨rfl, hb⟩
          have W2 := Lib.hid (W1.out.trans (hb.mono W1.out.size))
          clear hc hf
          obtain ⟨hc2, hf2⟩ := bcell W2.out
          have B2 := Lib.hid (below_then B1.out hb)
          clear hb
          go_wp2
          go_ret
          exact ⟨ret_i X.out.symm, B2.out⟩
        · have s2 : 1 ≤ x.n * y.d - y.n * x.d := by omega
          by_cases s3 : x.n * y.d - y.n * x.d ≤ 1
          · have X := Lib.hid (show cmpI x y = x.n * y.d - y.n * x.d by rw [cmp_gt hB (by omega)]; omega)
            clear h k hB P
            go_enter Try.func19, Try.ntmps19
            go_wp2_with fail
            refine (specNumYes x.n x.d x.t _ hx NX.out).mono ?_
            rintro e w1 ⟨rfl, hb⟩
            obtain ⟨hc, hf⟩ := bcell hb
            have W1 := Lib.hid hb
            have B1 := Lib.hid (below_then (below2 w _ _) hb)
            clear hb
            go_wp2_with fail
            refine (specNumYes y.n y.d y.t _ hy NY.out).mono ?_
            rintro e w2 ⟨rfl, hb⟩
            have W2 := Lib.hid (W1.out.trans (hb.mono W1.out.size))
            clear hc hf
            obtain ⟨hc2, hf2⟩ := bcell W2.out
            have B2 := Lib.hid (below_then B1.out hb)
            clear hb
            go_wp2
            go_ret
            exact ⟨ret_i X.out.symm, B2.out⟩
          · have X := Lib.hid (cmp_gt hB (by omega))
            clear h k hB P
            go_enter Try.func19, Try.ntmps19
            go_wp2_with fail
            refine (specNumYes x.n x.d x.t _ hx NX.out).mono ?_
            rintro e w1 ⟨rfl, hb⟩
            obtain ⟨hc, hf⟩ := bcell hb
            have W1 := Lib.hid hb
            have B1 := Lib.hid (below_then (below2 w _ _) hb)
            clear hb
            go_wp2_with fail
            refine (specNumYes y.n y.d y.t _ hy NY.out).mono ?_
            rintro e w2 ⟨rfl, hb⟩
            have W2 := Lib.hid (W1.out.trans (hb.mono W1.out.size))
            clear hc hf
            obtain ⟨hc2, hf2⟩ := bcell W2.out
            have B2 := Lib.hid (below_then B1.out hb)
            clear hb
            go_wp2
            go_ret
            exact ⟨ret_i X.out.symm, B2.out⟩
end Go.Proofs.Ytmglolpiekbnpaa
