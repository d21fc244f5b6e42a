/- The program's remainders. -/
import Derived.Test.YtmglolpiekbnpaaNumImpl4
import Derived.Deep.RegionHeld3
namespace Go.Proofs.Ytmglolpiekbnpaa
open Go.RowKit
set_option linter.unusedVariables false

set_option maxHeartbeats 8000000 in
theorem implRem (x y : It) (w : World) (hx : x.t.size ≤ 9223372036854775807) (hy : y.t.size ≤ 9223372036854775807) :
    Calls Try.prog 14 #[.agg #[.int .i64 x.n, .int .i64 x.d, .string x.t], .agg #[.int .i64 y.n, .int .i64 y.d, .string y.t]] w fun e w' => e = .returned (.agg #[.int .i64 (remI x y).n, .int .i64 (remI x y).d, .string (remI x y).t]) ∧ Below w.heap.size w w' := by
  cases h : both x y
  · have X := Lib.hid (show remI x y = noI by unfold remI; simp [h])
    have N := Lib.hid h
    clear h
    go_enter Try.func14, Try.ntmps14
    go_wp2_with fail
    refine (areNo x y _ hx hy N.out).mono ?_
    rintro e w1 ⟨rfl, hb⟩
    obtain ⟨hc, hf⟩ := bcell hb
    have B1 := Lib.hid (below_then (below3 w _ _ _) hb)
    have G := Lib.hid (blk_below (g := w.heap.size + 2) hb (blk_new _ _ (by simp)))
    clear hb
    go_wp2
    rw [X.out]
    exact item_ret rfl rfl rfl G.out ⟨rfl, below_three B1.out (by omega) _ _ _⟩
  · by_cases h0 : y.n = 0
    · have X := Lib.hid (show remI x y = noI by unfold remI; rw [if_neg (by simp [h0])])
      have N := Lib.hid h
      have h0' : (y.n == 0) = true := by simp [h0]
      clear h h0
      go_enter Try.func14, Try.ntmps14
      go_wp2_with fail
      refine (areYes x y _ hx hy N.out).mono ?_
      rintro e w1 ⟨rfl, hb⟩
      obtain ⟨hc, hf⟩ := bcell hb
      have B1 := Lib.hid (below_then (below3 w _ _ _) hb)
      have G := Lib.hid (blk_below (g := w.heap.size + 2) hb (blk_new _ _ (by simp)))
      have hz : w.heap.size + 2 < w1.heap.size := by have := hb.size; simp at this; omega
      clear hb
      go_wp2
      rw [X.out]
      exact item_ret rfl rfl rfl G.out ⟨rfl, below_three B1.out (by omega) _ _ _⟩
    · have P := parts_in (both_iff.1 h).1 (both_iff.1 h).2
      have R := Lib.hid (implRatio x y)
      have PP := Lib.hid (show (-999999998000000001 ≤ x.n * y.d ∧ x.n * y.d ≤ 999999998000000001) ∧ (-999999998000000001 ≤ x.d * y.n ∧ x.d * y.n ≤ 999999998000000001) by omega)
      have D := Lib.hid (show x.d * y.n ≠ 0 from Int.mul_ne_zero (by have := isN_iff.1 (both_iff.1 h).1; omega) h0)
      have N := Lib.hid h
      have h0' : (y.n == 0) = false := by simp [h0]
      have X := Lib.hid (rem_mk h h0)
      have E := Lib.hid (fun W => implExcess (x.n * y.d) (x.d * y.n) W (by omega) (by omega) (by omega) (by omega) D.out)
      have c0 : -999999998000000001 ≤ x.d * y.d := by omega
      have c1 : x.d * y.d ≤ 999999998000000001 := by omega
      have f := fmod_in (n := x.n * y.d) (d := x.d * y.n) (A := 999999998000000001) (by omega) (by omega) D.out
      obtain ⟨r, hr⟩ : ∃ r, (x.n * y.d).fmod (x.d * y.n) = r := ⟨_, rfl⟩
      rw [hr] at X E f
      have ew : IntKind.wrap .i64 (x.d * y.d) = x.d * y.d := by rw [IntWalk.i64_left]; exact IntWalk.wrap64_in _ (by omega)
      have FN : Hid (∀ W, Calls Try.prog 46 #[.agg #[.int .i64 r, .int .i64 (IntKind.wrap .i64 (x.d * y.d))]] W fun e w' => e = .returned (.agg #[.int .i64 (mkI r (x.d * y.d)).n, .int .i64 (mkI r (x.d * y.d)).d, .string ⟨#[]⟩]) ∧ Below W.heap.size W w') := by
        refine Lib.hid ?_
        intro W
        rw [ew]
        exact fracNumber r (x.d * y.d) W ⟨by omega, by omega⟩ ⟨by omega, by omega⟩
      clear h P h0 hr f ew c0 c1
      go_enter Try.func14, Try.ntmps14
      go_wp2_with fail
      refine (areYes x y _ hx hy N.out).mono ?_
      rintro e w1 ⟨rfl, hb⟩
      obtain ⟨hc, hf⟩ := bcell hb
      have B1 := Lib.hid (below_then (below3 w _ _ _) hb)
      have GX := Lib.hid (blk_below (g := w.heap.size) hb (blk_old (blk_old (blk_new _ _ rfl))))
      have GY := Lib.hid (blk_below (g := w.heap.size + 1) hb (blk_old (blk_new _ _ (by simp))))
      have GR := Lib.hid (blk_below (g := w.heap.size + 2) hb (blk_new _ _ (by simp)))
      have hz : w.heap.size + 2 < w1.heap.size := by have := hb.size; simp at this; omega
      have BS := Lib.hid (Below.refl w1.heap.size w1)
      clear hb
      go_wp2_with fail
      clear hc hf
      go_region_held3 (fun w' => w'.cell? ⟨w.heap.size, 0, none⟩ = some (.int .i64 x.n) ∧ w'.cell? ⟨w.heap.size, 1, none⟩ = some (.int .i64 x.d) ∧ w'.cell? ⟨w.heap.size, 2, none⟩ = some (.string x.t) ∧ w'.cell? ⟨w.heap.size + 1, 0, none⟩ = some (.int .i64 y.n) ∧ w'.cell? ⟨w.heap.size + 1, 1, none⟩ = some (.int .i64 y.d) ∧ w'.cell? ⟨w.heap.size + 1, 2, none⟩ = some (.string y.t)) (first | with_reducible exact six (blk_drew GX.out) (blk_drew GY.out) | with_reducible exact six GX.out GY.out | ((with_reducible refine six (blk_set3 GX.out ?_) (blk_set3 GY.out ?_)) <;> omega)) (first
        | (go_at_call 43; refine (R.out _ PP.out).mono ?_; rintro e w2 ⟨rfl, hb⟩; have GX := Lib.hid (blk_step hb (by first | with_reducible exact .same | with_reducible exact .drew) GX.out); have GY := Lib.hid (blk_step hb (by first | with_reducible exact .same | with_reducible exact .drew) GY.out); have GR := Lib.hid (blk_step hb (by first | with_reducible exact .same | with_reducible exact .drew) GR.out); have BS := Lib.hid (below_step BS.out (by first | with_reducible exact .same | with_reducible exact .drew) hb BS.out.size); have hs := BS.out.size; clear hb)
        | (go_at_call 45; refine (E.out _).mono ?_; rintro e w3 ⟨rfl, hb⟩; have GX := Lib.hid (blk_step hb (by first | with_reducible exact .same | with_reducible exact .drew) GX.out); have GY := Lib.hid (blk_step hb (by first | with_reducible exact .same | with_reducible exact .drew) GY.out); have GR := Lib.hid (blk_step hb (by first | with_reducible exact .same | with_reducible exact .drew) GR.out); have BS := Lib.hid (below_step BS.out (by first | with_reducible exact .same | with_reducible exact .drew) hb BS.out.size); have hs := BS.out.size; clear hb)
        | (go_at_call 46; refine (FN.out _).mono ?_; rintro e w4 ⟨rfl, hb⟩; have GX := Lib.hid (blk_step hb (by first | with_reducible exact .same | with_reducible exact .drew) GX.out); have GY := Lib.hid (blk_step hb (by first | with_reducible exact .same | with_reducible exact .drew) GY.out); have GR := Lib.hid (blk_step hb (by first | with_reducible exact .same | with_reducible exact .drew) GR.out); have BS := Lib.hid (below_step BS.out (by first | with_reducible exact .same | with_reducible exact .drew) hb BS.out.size); have hs := BS.out.size; clear hb; (have G6 := three GR.out; obtain ⟨⟨c0, c1, c2⟩, f0, f1, f2⟩ := G6)))
      all_goals
        go_wp2
        rw [← X.out, mkI_t]
        exact item_ret rfl rfl rfl GR.out ⟨rfl, below_three (below_then B1.out BS.out) (by omega) _ _ _⟩
end Go.Proofs.Ytmglolpiekbnpaa
