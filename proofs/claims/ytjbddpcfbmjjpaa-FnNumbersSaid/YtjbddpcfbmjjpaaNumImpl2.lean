/- The program's arithmetic, continued: differences, quotients, floors. -/
import Derived.Test.YtjbddpcfbmjjpaaNumImpl
namespace Go.Proofs.Ytjbddpcfbmjjpaa
open Go.RowKit
set_option linter.unusedVariables false

theorem infoFrac : (Try.prog.info? 46).map (·.size) = some 2 := by kernel_rfl
theorem frac_ret0 {fn : Func} {R : Ending → World → Prop} {act : Act} {w : World} {g : Nat} {p : Tmp} {a b : Value} {t : TypeId} {fr : Nat × Nat}
    (hfn : fn.results = #[.cell p 46]) (hp : act.tmps.getD p undef = .pointer (some ⟨g, 0, none⟩)) (hd : act.defers = []) (hg : w.heap[g]? = some (.cells #[a, b] t fr))
    (hR : R (.returned (.agg #[a, b])) w) : bodyPost Try.prog fn R .ret act w :=
  bodyPost_ret (results_cell_row hfn _ _ g t #[a, b] fr _ hp hg Try.underlying46 rfl infoFrac) hd hR

set_option maxHeartbeats 1000000 in
theorem implRatio (x y : It) (w : World) (P : (-999999998000000001 ≤ x.n * y.d ∧ x.n * y.d ≤ 999999998000000001) ∧ (-999999998000000001 ≤ x.d * y.n ∧ x.d * y.n ≤ 999999998000000001)) :
    Calls Try.prog 50 #[.agg #[.int .i64 x.n, .int .i64 x.d, .string x.t], .agg #[.int .i64 y.n, .int .i64 y.d, .string y.t]] w fun e w' => e = .returned (.agg #[.int .i64 (x.n * y.d), .int .i64 (x.d * y.n)]) ∧ Below w.heap.size w w' := by
  have a0 := P.1.1
  have a1 := P.1.2
  have b0 := P.2.1
  have b1 := P.2.2
  clear P
  go_enter Try.func50, Try.ntmps50
  go_wp2
  exact frac_ret0 rfl rfl rfl (blk_new _ _ (by simp)) ⟨rfl, below3 w _ _ _⟩

set_option maxHeartbeats 1000000 in
theorem implDiv (x y : It) (w : World) (hx : x.t.size ≤ 9223372036854775807) (hy : y.t.size ≤ 9223372036854775807) :
    Calls Try.prog 44 #[.agg #[.int .i64 x.n, .int .i64 x.d, .string x.t], .agg #[.int .i64 y.n, .int .i64 y.d, .string y.t]] w fun e w' => e = .returned (.agg #[.int .i64 (divI x y).n, .int .i64 (divI x y).d, .string (divI x y).t]) ∧ Below w.heap.size w w' := by
  cases h : both x y
  · have X := Lib.hid (show divI x y = noI by unfold divI; simp [h])
    have N := Lib.hid h
    clear h
    go_enter Try.func44, Try.ntmps44
    go_wp2_with fail
    refine (areNo x y _ hx hy N.out).mono ?_
    rintro e w1 ⟨rfl, hb⟩
    obtain ⟨hc, hf⟩ := bcell hb
    have B1 := Lib.hid (below_then (below3 w _ _ _) hb)
    have G := Lib.hid (blk_below (g := w.heap.size + 2) hb (blk_new _ _ (by simp)))
    clear hb
    go_wp2
    rw [X.out]
    exact item_ret rfl rfl rfl G.out ⟨rfl, below_three B1.out (by omega) _ _ _⟩
  · have P := parts_in (both_iff.1 h).1 (both_iff.1 h).2
    have R := Lib.hid (implRatio x y)
    have K := Lib.hid (show (-9223372036854775808 ≤ x.n * y.d ∧ x.n * y.d ≤ 9223372036854775807) ∧ (-9223372036854775808 ≤ x.d * y.n ∧ x.d * y.n ≤ 9223372036854775807) by omega)
    have PP := Lib.hid (show (-999999998000000001 ≤ x.n * y.d ∧ x.n * y.d ≤ 999999998000000001) ∧ (-999999998000000001 ≤ x.d * y.n ∧ x.d * y.n ≤ 999999998000000001) by omega)
    have X := Lib.hid (div_mk h)
    have XT := Lib.hid (divI_t x y)
    have N := Lib.hid h
    clear h P
    go_enter Try.func44, Try.ntmps44
    go_wp2_with fail
    refine (areYes x y _ hx hy N.out).mono ?_
    rintro e w1 ⟨rfl, hb⟩
    obtain ⟨hc, hf⟩ := bcell hb
    have B1 := Lib.hid (below_then (below3 w _ _ _) hb)
    have G := Lib.hid (blk_below (g := w.heap.size + 2) hb (blk_new _ _ (by simp)))
    have hz : w.heap.size + 2 < w1.heap.size := by have := hb.size; simp at this; omega
    clear hb
    go_wp2_with fail
    refine (R.out _ PP.out).mono ?_
    rintro e w2 ⟨rfl, hb⟩
    obtain ⟨hc2, hf2⟩ := bcell hb
    have B2 := Lib.hid (below_then B1.out hb)
    have G2 := Lib.hid (blk_below hb G.out)
    have hz2 : w.heap.size + 2 < w2.heap.size := by have := hb.size; omega
    clear hb
    go_wp2_with fail
    refine (fracNumber (x.n * y.d) (x.d * y.n) _ K.out.1 K.out.2).mono ?_
    rintro e w3 ⟨rfl, hb⟩
    obtain ⟨hc3, hf3⟩ := bcell hb
    have B3 := Lib.hid (below_then B2.out hb)
    have G3 := Lib.hid (blk_below hb G2.out)
    clear hb
    rw [X.out]
    go_wp2
    rw [XT.out]
    exact item_ret rfl rfl rfl G3.out ⟨rfl, below_three B3.out (by omega) _ _ _⟩

set_option maxHeartbeats 1000000 in
theorem implNeg (x : It) (w : World) (hx : x.t.size ≤ 9223372036854775807) :
    Calls Try.prog 26 #[.agg #[.int .i64 x.n, .int .i64 x.d, .string x.t]] w fun e w' => e = .returned (.agg #[.int .i64 (negI x).n, .int .i64 (negI x).d, .string (negI x).t]) ∧ Below w.heap.size w w' := by
  cases h : isN x
  · have X := Lib.hid (show negI x = noI by unfold negI; simp [h])
    have N := Lib.hid (show isN ⟨x.n, x.d, x.t⟩ = false from h)
    clear h
    go_enter Try.func26, Try.ntmps26
    go_wp2_with fail
    refine (implNumNo x.n x.d x.t _ hx N.out).mono ?_
    rintro e w1 ⟨rfl, hb⟩
    obtain ⟨hc, hf⟩ := bcell hb
    have B1 := Lib.hid (below_then (below2 w _ _) hb)
    have G := Lib.hid (blk_below (g := w.heap.size + 1) hb (blk_new _ _ (by simp)))
    clear hb
    go_wp2
    rw [X.out]
    exact item_ret rfl rfl rfl G.out ⟨rfl, below_three B1.out (by omega) _ _ _⟩
  · have X := Lib.hid (neg_mk h)
    have P := isN_iff.1 h
    have p0 : -999999999 ≤ x.n := P.2.2.2.1
    have p1 : x.n ≤ 999999999 := P.2.2.2.2.1
    have N := Lib.hid (show isN ⟨x.n, x.d, x.t⟩ = true from h)
    clear h P
    go_enter Try.func26, Try.ntmps26
    go_wp2_with fail
    refine (implNumYes x.n x.d x.t _ hx N.out).mono ?_
    rintro e w1 ⟨rfl, hb⟩
    obtain ⟨hc, hf⟩ := bcell hb
    have B1 := Lib.hid (below_then (below2 w _ _) hb)
    have G := Lib.hid (blk_below (g := w.heap.size + 1) hb (blk_new _ _ (by simp)))
    have hz : w.heap.size + 1 < w1.heap.size := by have := hb.size; simp at this; omega
    clear hb
    go_wp2
    rw [← X.out]
    exact item_ret rfl rfl rfl G.out ⟨rfl, below_three B1.out (by omega) _ _ _⟩

set_option maxHeartbeats 1000000 in
theorem implExcess (n d : Int) (w : World) (n0 : -4000000000000000000 ≤ n) (n1 : n ≤ 4000000000000000000) (d0 : -4000000000000000000 ≤ d) (d1 : d ≤ 4000000000000000000) (hd : d ≠ 0) :
    Calls Try.prog 52 #[.agg #[.int .i64 n, .int .i64 d]] w fun e w' => e = .returned (.int .i64 (n.fmod d)) ∧ Below w.heap.size w w' := by
  have X := exc_eq (n := n) hd
  unfold excF at X
  obtain ⟨r0, r1, _⟩ := tmod_in2 (x := n) hd d0 d1
  by_cases c : n.tmod d < 0
  · by_cases s : 0 < d
    · rw [if_pos (.inl ⟨c, s⟩)] at X
      have XX := Lib.hid X
      clear X hd
      go_enter Try.func52, Try.ntmps52
      go_wp2
      go_ret
      exact ⟨ret_i XX.out, below1 w _⟩
    · rw [if_neg (by omega)] at X
      have XX := Lib.hid X
      have s' : d < 0 := by omega
      clear X hd
      go_enter Try.func52, Try.ntmps52
      go_wp2
      go_ret
      exact ⟨ret_i XX.out, below1 w _⟩
  · by_cases c2 : 0 < n.tmod d
    · by_cases s : 0 < d
      · rw [if_neg (by omega)] at X
        have XX := Lib.hid X
        clear X hd
        go_enter Try.func52, Try.ntmps52
        go_wp2
        go_ret
        exact ⟨ret_i XX.out, below1 w _⟩
      · have s' : d < 0 := by omega
        rw [if_pos (.inr ⟨c2, s'⟩)] at X
        have XX := Lib.hid X
        clear X hd
        go_enter Try.func52, Try.ntmps52
        go_wp2
        go_ret
        exact ⟨ret_i XX.out, below1 w _⟩
    · rw [if_neg (by omega)] at X
      have XX := Lib.hid X
      by_cases s : 0 < d
      all_goals
        clear X
        go_enter Try.func52, Try.ntmps52
        go_wp2
        go_ret
        exact ⟨ret_i XX.out, below1 w _⟩
end Go.Proofs.Ytjbddpcfbmjjpaa
