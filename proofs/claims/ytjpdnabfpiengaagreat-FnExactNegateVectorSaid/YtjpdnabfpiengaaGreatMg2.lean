/- The program's arithmetic, each function against its plain one. -/
import Derived.Test.YtjpdnabfpiengaaGreatRows
import Derived.Test.YtjpdnabfpiengaaGreatNumMath
import Derived.Test.YtjpdnabfpiengaaGreatNumKit
import Derived.Test.YtjpdnabfpiengaaGreatNumMake
import Derived.Test.YtjpdnabfpiengaaGreatMg1
import Derived.Test.YtjpdnabfpiengaaGreatVecCntI
import Derived.WalkKit
import Derived.WalkSpells
import Derived.WalkLawsBesides
import Derived.IntWalk
import Derived.Lib.Hide
import Derived.Deep.RegionWith
import Derived.StillTailTactics
import Derived.RegionTactic
import Derived.OwnWalk
import Derived.Deep.DeepCutAuto
import Derived.WideMake
import Derived.Laws.EntriesVeiled
import Derived.Deep.RegionHeld3
namespace Go.Proofs.YtjpdnabfpiengaaGreat
set_option maxRecDepth 100000
open Go.RowKit
set_option linter.unusedVariables false

set_option maxHeartbeats 1000000 in
theorem areAny (x y : It) (w : World) (hx : x.t.size ≤ 9223372036854775807) (hy : y.t.size ≤ 9223372036854775807) :
    Calls Tryz.prog 83 #[.agg #[.int .i64 x.n, .int .i64 x.d, .string x.t], .agg #[.int .i64 y.n, .int .i64 y.d, .string y.t]] w fun e w' => e = .returned (.bool (both x y)) ∧ Below w.heap.size w w' := by
  cases h : isN x
  · have X := Lib.hid (show both x y = false by unfold both; rw [h]; rfl)
    have C := Lib.hid (implNumNo x.n x.d x.t)
    have h' : isN ⟨x.n, x.d, x.t⟩ = false := h
    have N := Lib.hid h'
    clear h h'
    go_enter Tryz.func83, Tryz.ntmps83
    go_wp2_with fail
    refine (C.out _ hx N.out).mono ?_
    rintro e w1 ⟨rfl, hb⟩
    have B1 := Lib.hid (below_then (below2 w _ _) hb)
    clear hb
    go_wp2
    go_ret
    exact ⟨ret_b X.out.symm, B1.out⟩
  · have X := Lib.hid (show both x y = isN y by unfold both; rw [h]; rfl)
    have C := Lib.hid (implNumYes x.n x.d x.t)
    have h' : isN ⟨x.n, x.d, x.t⟩ = true := h
    have N := Lib.hid h'
    clear h h'
    go_enter Tryz.func83, Tryz.ntmps83
    go_wp2_with fail
    refine (C.out _ hx N.out).mono ?_
    rintro e w1 ⟨rfl, hb⟩
    obtain ⟨hc, hf⟩ := bcell hb
    have B1 := Lib.hid (below_then (below2 w _ _) hb)
    clear hb
    go_wp2_with fail
    refine (implIsNum y.n y.d y.t _ hy).mono ?_
    rintro e w2 ⟨rfl, hb⟩
    have B2 := Lib.hid (below_then B1.out hb)
    clear hb
    go_wp2
    go_ret
    exact ⟨ret_b X.out.symm, B2.out⟩
theorem areYes (x y : It) (w : World) (hx : x.t.size ≤ 9223372036854775807) (hy : y.t.size ≤ 9223372036854775807) (h : both x y = true) :
    Calls Tryz.prog 83 #[.agg #[.int .i64 x.n, .int .i64 x.d, .string x.t], .agg #[.int .i64 y.n, .int .i64 y.d, .string y.t]] w fun e w' => e = .returned (.bool true) ∧ Below w.heap.size w w' := by
  have := areAny x y w hx hy
  rwa [h] at this
theorem areNo (x y : It) (w : World) (hx : x.t.size ≤ 9223372036854775807) (hy : y.t.size ≤ 9223372036854775807) (h : both x y = false) :
    Calls Tryz.prog 83 #[.agg #[.int .i64 x.n, .int .i64 x.d, .string x.t], .agg #[.int .i64 y.n, .int .i64 y.d, .string y.t]] w fun e w' => e = .returned (.bool false) ∧ Below w.heap.size w w' := by
  have := areAny x y w hx hy
  rwa [h] at this

set_option maxHeartbeats 1000000 in
theorem fracNumber (p q : Int) (w : World) (h : -9223372036854775808 ≤ p ∧ p ≤ 9223372036854775807) (h' : -9223372036854775808 ≤ q ∧ q ≤ 9223372036854775807) :
    Calls Tryz.prog 84 #[.agg #[.int .i64 p, .int .i64 q]] w fun e w' => e = .returned (.agg #[.int .i64 (mkI p q).n, .int .i64 (mkI p q).d, .string ⟨#[]⟩]) ∧ Below w.heap.size w w' := by
  go_enter Tryz.func84, Tryz.ntmps84
  go_wp2_with fail
  refine (implMake p q _ h h').mono ?_
  rintro e w1 ⟨rfl, hb⟩
  obtain ⟨hc, hf⟩ := bcell hb
  have B1 := Lib.hid (below_then (below2 w _ _) hb)
  have G := Lib.hid (blk_below (g := w.heap.size + 1) hb (blk_new _ _ (by simp)))
  clear hb
  go_wp2
  exact item_ret rfl rfl rfl G.out ⟨rfl, below_three B1.out (by omega) _ _ _⟩

set_option maxHeartbeats 1000000 in
theorem implAdd (x y : It) (w : World) (hx : x.t.size ≤ 9223372036854775807) (hy : y.t.size ≤ 9223372036854775807) :
    Calls Tryz.prog 61 #[.agg #[.int .i64 x.n, .int .i64 x.d, .string x.t], .agg #[.int .i64 y.n, .int .i64 y.d, .string y.t]] w fun e w' => e = .returned (.agg #[.int .i64 (addI x y).n, .int .i64 (addI x y).d, .string (addI x y).t]) ∧ Below w.heap.size w w' := by
  cases h : both x y
  · have X := Lib.hid (show addI x y = noI by unfold addI; simp [h])
    have N := Lib.hid h
    clear h
    go_enter Tryz.func61, Tryz.ntmps61
    go_wp2_with fail
    refine (areNo x y _ hx hy N.out).mono ?_
    rintro e w1 ⟨rfl, hb⟩
    obtain ⟨hc, hf⟩ := bcell hb
    have B1 := Lib.hid (below_then (below3 w _ _ _) hb)
    have G := Lib.hid (blk_below (g := w.heap.size + 2) hb (blk_new _ _ (by simp)))
    clear hb
    go_wp2
    rw [X.out]
    exact item_ret rfl rfl rfl G.out ⟨rfl, below_three B1.out (by omega) _ _ _⟩
  · have P := Lib.hid (parts_in (both_iff.1 h).1 (both_iff.1 h).2)
    have X := Lib.hid (add_mk h)
    have XT := Lib.hid (addI_t x y)
    have N := Lib.hid h
    have X1 := isN_iff.1 (both_iff.1 h).1
    have Y1 := isN_iff.1 (both_iff.1 h).2
    clear h
    have a0 : -999999998000000001 ≤ x.n * y.d := by have := P.out; omega
    have a1 : x.n * y.d ≤ 999999998000000001 := by have := P.out; omega
    have b0 : -999999998000000001 ≤ y.n * x.d := by have := P.out; omega
    have b1 : y.n * x.d ≤ 999999998000000001 := by have := P.out; omega
    have c0 : -999999998000000001 ≤ x.d * y.d := by have := P.out; omega
    have c1 : x.d * y.d ≤ 999999998000000001 := by have := P.out; omega

    clear X1 Y1
    go_enter Tryz.func61, Tryz.ntmps61
    go_wp2_with fail
    refine (areYes x y _ hx hy N.out).mono ?_
    rintro e w1 ⟨rfl, hb⟩
    obtain ⟨hc, hf⟩ := bcell hb
    have B1 := Lib.hid (below_then (below3 w _ _ _) hb)
    have G := Lib.hid (blk_below (g := w.heap.size + 2) hb (blk_new _ _ (by simp)))
    have hz : w.heap.size + 2 < w1.heap.size := by have := hb.size; simp at this; omega
    clear hb
    go_wp2_with fail
    refine (fracNumber (x.n * y.d + y.n * x.d) (x.d * y.d) _ ⟨by omega, by omega⟩ ⟨by omega, by omega⟩).mono ?_
    rintro e w2 ⟨rfl, hb⟩
    obtain ⟨hc2, hf2⟩ := bcell hb
    have B2 := Lib.hid (below_then B1.out hb)
    have G2 := Lib.hid (blk_below hb G.out)
    clear hb
    rw [X.out]
    go_wp2
    rw [XT.out]
    exact item_ret rfl rfl rfl G2.out ⟨rfl, below_three B2.out (by omega) _ _ _⟩

set_option maxHeartbeats 1000000 in
theorem implMul (x y : It) (w : World) (hx : x.t.size ≤ 9223372036854775807) (hy : y.t.size ≤ 9223372036854775807) :
    Calls Tryz.prog 63 #[.agg #[.int .i64 x.n, .int .i64 x.d, .string x.t], .agg #[.int .i64 y.n, .int .i64 y.d, .string y.t]] w fun e w' => e = .returned (.agg #[.int .i64 (mulI x y).n, .int .i64 (mulI x y).d, .string (mulI x y).t]) ∧ Below w.heap.size w w' := by
  cases h : both x y
  · have X := Lib.hid (show mulI x y = noI by unfold mulI; simp [h])
    have N := Lib.hid h
    clear h
    go_enter Tryz.func63, Tryz.ntmps63
    go_wp2_with fail
    refine (areNo x y _ hx hy N.out).mono ?_
    rintro e w1 ⟨rfl, hb⟩
    obtain ⟨hc, hf⟩ := bcell hb
    have B1 := Lib.hid (below_then (below3 w _ _ _) hb)
    have G := Lib.hid (blk_below (g := w.heap.size + 2) hb (blk_new _ _ (by simp)))
    clear hb
    go_wp2
    rw [X.out]
    exact item_ret rfl rfl rfl G.out ⟨rfl, below_three B1.out (by omega) _ _ _⟩
  · have P := Lib.hid (parts_in (both_iff.1 h).1 (both_iff.1 h).2)
    have X := Lib.hid (mul_mk h)
    have XT := Lib.hid (mulI_t x y)
    have N := Lib.hid h
    have X1 := isN_iff.1 (both_iff.1 h).1
    have Y1 := isN_iff.1 (both_iff.1 h).2
    clear h
    have a0 : -999999998000000001 ≤ x.n * y.n := by have := P.out; omega
    have a1 : x.n * y.n ≤ 999999998000000001 := by have := P.out; omega
    have c0 : -999999998000000001 ≤ x.d * y.d := by have := P.out; omega
    have c1 : x.d * y.d ≤ 999999998000000001 := by have := P.out; omega

    clear X1 Y1
    go_enter Tryz.func63, Tryz.ntmps63
    go_wp2_with fail
    refine (areYes x y _ hx hy N.out).mono ?_
    rintro e w1 ⟨rfl, hb⟩
    obtain ⟨hc, hf⟩ := bcell hb
    have B1 := Lib.hid (below_then (below3 w _ _ _) hb)
    have G := Lib.hid (blk_below (g := w.heap.size + 2) hb (blk_new _ _ (by simp)))
    have hz : w.heap.size + 2 < w1.heap.size := by have := hb.size; simp at this; omega
    clear hb
    go_wp2_with fail
    refine (fracNumber (x.n * y.n) (x.d * y.d) _ ⟨by omega, by omega⟩ ⟨by omega, by omega⟩).mono ?_
    rintro e w2 ⟨rfl, hb⟩
    obtain ⟨hc2, hf2⟩ := bcell hb
    have B2 := Lib.hid (below_then B1.out hb)
    have G2 := Lib.hid (blk_below hb G.out)
    clear hb
    rw [X.out]
    go_wp2
    rw [XT.out]
    exact item_ret rfl rfl rfl G2.out ⟨rfl, below_three B2.out (by omega) _ _ _⟩
end Go.Proofs.YtjpdnabfpiengaaGreat

/- The program's arithmetic, continued: differences, quotients, floors. -/
namespace Go.Proofs.YtjpdnabfpiengaaGreat
set_option maxRecDepth 100000
open Go.RowKit
set_option linter.unusedVariables false

theorem infoFrac : (Tryz.prog.info? 91).map (·.size) = some 2 := by kernel_rfl
theorem frac_ret0 {fn : Func} {R : Ending → World → Prop} {act : Act} {w : World} {g : Nat} {p : Tmp} {a b : Value} {t : TypeId} {fr : Nat × Nat}
    (hfn : fn.results = #[.cell p 91]) (hp : act.tmps.getD p undef = .pointer (some ⟨g, 0, none⟩)) (hd : act.defers = []) (hg : w.heap[g]? = some (.cells #[a, b] t fr))
    (hR : R (.returned (.agg #[a, b])) w) : bodyPost Tryz.prog fn R .ret act w :=
  bodyPost_ret (results_cell_row hfn _ _ g t #[a, b] fr _ hp hg Tryz.underlying91 rfl infoFrac) hd hR

set_option maxHeartbeats 1000000 in
theorem implRatio (x y : It) (w : World) (P : (-999999998000000001 ≤ x.n * y.d ∧ x.n * y.d ≤ 999999998000000001) ∧ (-999999998000000001 ≤ x.d * y.n ∧ x.d * y.n ≤ 999999998000000001)) :
    Calls Tryz.prog 86 #[.agg #[.int .i64 x.n, .int .i64 x.d, .string x.t], .agg #[.int .i64 y.n, .int .i64 y.d, .string y.t]] w fun e w' => e = .returned (.agg #[.int .i64 (x.n * y.d), .int .i64 (x.d * y.n)]) ∧ Below w.heap.size w w' := by
  have a0 := P.1.1
  have a1 := P.1.2
  have b0 := P.2.1
  have b1 := P.2.2
  clear P
  go_enter Tryz.func86, Tryz.ntmps86
  go_wp2
  exact frac_ret0 rfl rfl rfl (blk_new _ _ (by simp)) ⟨rfl, below3 w _ _ _⟩

set_option maxHeartbeats 1000000 in
theorem implDiv (x y : It) (w : World) (hx : x.t.size ≤ 9223372036854775807) (hy : y.t.size ≤ 9223372036854775807) :
    Calls Tryz.prog 64 #[.agg #[.int .i64 x.n, .int .i64 x.d, .string x.t], .agg #[.int .i64 y.n, .int .i64 y.d, .string y.t]] w fun e w' => e = .returned (.agg #[.int .i64 (divI x y).n, .int .i64 (divI x y).d, .string (divI x y).t]) ∧ Below w.heap.size w w' := by
  cases h : both x y
  · have X := Lib.hid (show divI x y = noI by unfold divI; simp [h])
    have N := Lib.hid h
    clear h
    go_enter Tryz.func64, Tryz.ntmps64
    go_wp2_with fail
    refine (areNo x y _ hx hy N.out).mono ?_
    rintro e w1 ⟨rfl, hb⟩
    obtain ⟨hc, hf⟩ := bcell hb
    have B1 := Lib.hid (below_then (below3 w _ _ _) hb)
    have G := Lib.hid (blk_below (g := w.heap.size + 2) hb (blk_new _ _ (by simp)))
    clear hb
    go_wp2
    rw [X.out]
    exact item_ret rfl rfl rfl G.out ⟨rfl, below_three B1.out (by omega) _ _ _⟩
  · have P := parts_in (both_iff.1 h).1 (both_iff.1 h).2
    have R := Lib.hid (implRatio x y)
    have K := Lib.hid (show (-9223372036854775808 ≤ x.n * y.d ∧ x.n * y.d ≤ 9223372036854775807) ∧ (-9223372036854775808 ≤ x.d * y.n ∧ x.d * y.n ≤ 9223372036854775807) by omega)
    have PP := Lib.hid (show (-999999998000000001 ≤ x.n * y.d ∧ x.n * y.d ≤ 999999998000000001) ∧ (-999999998000000001 ≤ x.d * y.n ∧ x.d * y.n ≤ 999999998000000001) by omega)
    have X := Lib.hid (div_mk h)
    have XT := Lib.hid (divI_t x y)
    have N := Lib.hid h
    clear h P
    go_enter Tryz.func64, Tryz.ntmps64
    go_wp2_with fail
    refine (areYes x y _ hx hy N.out).mono ?_
    rintro e w1 ⟨rfl, hb⟩
    obtain ⟨hc, hf⟩ := bcell hb
    have B1 := Lib.hid (below_then (below3 w _ _ _) hb)
    have G := Lib.hid (blk_below (g := w.heap.size + 2) hb (blk_new _ _ (by simp)))
    have hz : w.heap.size + 2 < w1.heap.size := by have := hb.size; simp at this; omega
    clear hb
    go_wp2_with fail
    refine (R.out _ PP.out).mono ?_
    rintro e w2 ⟨rfl, hb⟩
    obtain ⟨hc2, hf2⟩ := bcell hb
    have B2 := Lib.hid (below_then B1.out hb)
    have G2 := Lib.hid (blk_below hb G.out)
    have hz2 : w.heap.size + 2 < w2.heap.size := by have := hb.size; omega
    clear hb
    go_wp2_with fail
    refine (fracNumber (x.n * y.d) (x.d * y.n) _ K.out.1 K.out.2).mono ?_
    rintro e w3 ⟨rfl, hb⟩
    obtain ⟨hc3, hf3⟩ := bcell hb
    have B3 := Lib.hid (below_then B2.out hb)
    have G3 := Lib.hid (blk_below hb G2.out)
    clear hb
    rw [X.out]
    go_wp2
    rw [XT.out]
    exact item_ret rfl rfl rfl G3.out ⟨rfl, below_three B3.out (by omega) _ _ _⟩

set_option maxHeartbeats 1000000 in
theorem implNeg (x : It) (w : World) (hx : x.t.size ≤ 9223372036854775807) :
    Calls Tryz.prog 85 #[.agg #[.int .i64 x.n, .int .i64 x.d, .string x.t]] w fun e w' => e = .returned (.agg #[.int .i64 (negI x).n, .int .i64 (negI x).d, .string (negI x).t]) ∧ Below w.heap.size w w' := by
  cases h : isN x
  · have X := Lib.hid (show negI x = noI by unfold negI; simp [h])
    have N := Lib.hid (show isN ⟨x.n, x.d, x.t⟩ = false from h)
    clear h
    go_enter Tryz.func85, Tryz.ntmps85
    go_wp2_with fail
    refine (implNumNo x.n x.d x.t _ hx N.out).mono ?_
    rintro e w1 ⟨rfl, hb⟩
    obtain ⟨hc, hf⟩ := bcell hb
    have B1 := Lib.hid (below_then (below2 w _ _) hb)
    have G := Lib.hid (blk_below (g := w.heap.size + 1) hb (blk_new _ _ (by simp)))
    clear hb
    go_wp2
    rw [X.out]
    exact item_ret rfl rfl rfl G.out ⟨rfl, below_three B1.out (by omega) _ _ _⟩
  · have X := Lib.hid (neg_mk h)
    have P := isN_iff.1 h
    have p0 : -999999999 ≤ x.n := P.2.2.2.1
    have p1 : x.n ≤ 999999999 := P.2.2.2.2.1
    have N := Lib.hid (show isN ⟨x.n, x.d, x.t⟩ = true from h)
    clear h P
    go_enter Tryz.func85, Tryz.ntmps85
    go_wp2_with fail
    refine (implNumYes x.n x.d x.t _ hx N.out).mono ?_
    rintro e w1 ⟨rfl, hb⟩
    obtain ⟨hc, hf⟩ := bcell hb
    have B1 := Lib.hid (below_then (below2 w _ _) hb)
    have G := Lib.hid (blk_below (g := w.heap.size + 1) hb (blk_new _ _ (by simp)))
    have hz : w.heap.size + 1 < w1.heap.size := by have := hb.size; simp at this; omega
    clear hb
    go_wp2
    rw [← X.out]
    exact item_ret rfl rfl rfl G.out ⟨rfl, below_three B1.out (by omega) _ _ _⟩

set_option maxHeartbeats 1000000 in
theorem implExcess (n d : Int) (w : World) (n0 : -4000000000000000000 ≤ n) (n1 : n ≤ 4000000000000000000) (d0 : -4000000000000000000 ≤ d) (d1 : d ≤ 4000000000000000000) (hd : d ≠ 0) :
    Calls Tryz.prog 87 #[.agg #[.int .i64 n, .int .i64 d]] w fun e w' => e = .returned (.int .i64 (n.fmod d)) ∧ Below w.heap.size w w' := by
  have X := exc_eq (n := n) hd
  unfold excF at X
  obtain ⟨r0, r1, _⟩ := tmod_in2 (x := n) hd d0 d1
  by_cases c : n.tmod d < 0
  · by_cases s : 0 < d
    · rw [if_pos (.inl ⟨c, s⟩)] at X
      have XX := Lib.hid X
      clear X hd
      go_enter Tryz.func87, Tryz.ntmps87
      go_wp2
      go_ret
      exact ⟨ret_i XX.out, below1 w _⟩
    · rw [if_neg (by omega)] at X
      have XX := Lib.hid X
      have s' : d < 0 := by omega
      clear X hd
      go_enter Tryz.func87, Tryz.ntmps87
      go_wp2
      go_ret
      exact ⟨ret_i XX.out, below1 w _⟩
  · by_cases c2 : 0 < n.tmod d
    · by_cases s : 0 < d
      · rw [if_neg (by omega)] at X
        have XX := Lib.hid X
        clear X hd
        go_enter Tryz.func87, Tryz.ntmps87
        go_wp2
        go_ret
        exact ⟨ret_i XX.out, below1 w _⟩
      · have s' : d < 0 := by omega
        rw [if_pos (.inr ⟨c2, s'⟩)] at X
        have XX := Lib.hid X
        clear X hd
        go_enter Tryz.func87, Tryz.ntmps87
        go_wp2
        go_ret
        exact ⟨ret_i XX.out, below1 w _⟩
    · rw [if_neg (by omega)] at X
      have XX := Lib.hid X
      by_cases s : 0 < d
      all_goals
        clear X
        go_enter Tryz.func87, Tryz.ntmps87
        go_wp2
        go_ret
        exact ⟨ret_i XX.out, below1 w _⟩
end Go.Proofs.YtjpdnabfpiengaaGreat

/- The program's arithmetic: differences, floors, quotients and remainders (their regions draw their order). -/
namespace Go.Proofs.YtjpdnabfpiengaaGreat
set_option maxRecDepth 100000
open Go.RowKit
set_option linter.unusedVariables false

set_option maxHeartbeats 2000000 in
theorem implSub (x y : It) (w : World) (hx : x.t.size ≤ 9223372036854775807) (hy : y.t.size ≤ 9223372036854775807) :
    Calls Tryz.prog 62 #[.agg #[.int .i64 x.n, .int .i64 x.d, .string x.t], .agg #[.int .i64 y.n, .int .i64 y.d, .string y.t]] w fun e w' => e = .returned (.agg #[.int .i64 (subI x y).n, .int .i64 (subI x y).d, .string (subI x y).t]) ∧ Below w.heap.size w w' := by
  have X := Lib.hid (show subI x y = addI x (negI y) from rfl)
  have XT := Lib.hid (show (addI x (negI y)).t = ⟨#[]⟩ from addI_t _ _)
  have ht : (negI y).t.size ≤ 9223372036854775807 := by rw [negI_t]; decide
  obtain ⟨z, hz⟩ : ∃ z, negI y = z := ⟨_, rfl⟩
  have C := Lib.hid (hz ▸ implNeg y)
  rw [hz] at X XT ht
  clear hz
  have H := Lib.hid ht
  clear ht
  go_enter Tryz.func62, Tryz.ntmps62
  go_wp2
  go_region_with (first
    | (go_at_call 85; refine (C.out _ hy).mono ?_; rintro e w1 ⟨rfl, hb⟩; obtain ⟨hc, hf⟩ := bcell hb; have hz : w.heap.size + 2 < w1.heap.size := (by have := hb.size; simp at this; omega); have B1 := Lib.hid (below_then (below_drew' (below3 w _ _ _)) hb); have G := Lib.hid (blk_below (g := w.heap.size + 2) hb (blk_drew (blk_new _ _ (by simp)))); clear hb)
    | (go_at_call 61; refine (implAdd x z _ hx H.out).mono ?_; rintro e w2 ⟨rfl, hb⟩; obtain ⟨hc2, hf2⟩ := bcell hb; have B2 := Lib.hid (below_then B1.out hb); have G2 := Lib.hid (blk_below hb G.out); clear hb))
  all_goals
    go_wp2
    rw [X.out]
    exact item_ret rfl rfl rfl G2.out ⟨rfl, below_three B2.out (by omega) _ _ _⟩

set_option maxHeartbeats 2000000 in
theorem implFloorF (n d : Int) (w : World) (n0 : -3000000000000000000 ≤ n) (n1 : n ≤ 3000000000000000000) (d0 : -1000000000000000000 ≤ d) (d1 : d ≤ 1000000000000000000) (hd : d ≠ 0) :
    Calls Tryz.prog 88 #[.agg #[.int .i64 n, .int .i64 d]] w fun e w' => e = .returned (.agg #[.int .i64 (mkI (n.fdiv d) 1).n, .int .i64 (mkI (n.fdiv d) 1).d, .string ⟨#[]⟩]) ∧ Below w.heap.size w w' := by
  have C := Lib.hid (fun W => implExcess n d W (by omega) (by omega) (by omega) (by omega) hd)
  have f := fmod_in (n := n) (A := 1000000000000000000) d0 d1 hd
  have q := fdiv_in (n := n) (d := d) (A := 3000000000000000000) hd n0 n1
  have Q := Lib.hid (fdiv_code (n := n) hd)
  have D := Lib.hid hd
  have hd' : (d == 0) = false := by simp [hd]
  obtain ⟨r, hr⟩ : ∃ r, n.fmod d = r := ⟨_, rfl⟩
  rw [hr] at C f Q
  obtain ⟨k, hk⟩ : ∃ k, n.fdiv d = k := ⟨_, rfl⟩
  rw [hk] at q Q ⊢
  have f0 := f.1
  have f1 := f.2
  have q0 : -9223372036854775808 ≤ (n - r).tdiv d := by have := Q.out; omega
  have q1 : (n - r).tdiv d ≤ 9223372036854775807 := by have := Q.out; omega
  have M := Lib.hid (fun W => implMake k 1 W (by omega) (by omega))
  have M' : Hid (∀ W, Calls Tryz.prog 45 #[.int .i64 ((n - r).tdiv d), .int .i64 1] W fun e w' => e = .returned (.agg #[.int .i64 (mkI k 1).n, .int .i64 (mkI k 1).d, .string ⟨#[]⟩]) ∧ Below W.heap.size W w') := by
    refine Lib.hid ?_
    rw [Q.out]; exact M.out
  clear hd hr hk f q M
  go_enter Tryz.func88, Tryz.ntmps88
  go_wp2
  go_region_with (first
    | (go_at_call 87; refine (C.out _).mono ?_; rintro e w1 ⟨rfl, hb⟩; obtain ⟨hc, hf⟩ := bcell hb; have hz : w.heap.size + 1 < w1.heap.size := (by have := hb.size; simp at this; omega); have B1 := Lib.hid (below_then (below_drew' (below2 w _ _)) hb); have G := Lib.hid (blk_below (g := w.heap.size + 1) hb (blk_drew (blk_new _ _ (by simp)))); clear hb)
    | (go_at_call 45; refine (M'.out _).mono ?_; rintro e w2 ⟨rfl, hb⟩; obtain ⟨hc2, hf2⟩ := bcell hb; have B2 := Lib.hid (below_then B1.out hb); have G2 := Lib.hid (blk_below hb G.out); clear hb))
  all_goals
    go_wp2
    exact item_ret rfl rfl rfl G2.out ⟨rfl, below_three B2.out (by omega) _ _ _⟩
end Go.Proofs.YtjpdnabfpiengaaGreat

/- The program's arithmetic: floors and quotients of numbers. -/
namespace Go.Proofs.YtjpdnabfpiengaaGreat
set_option maxRecDepth 100000
open Go.RowKit
set_option linter.unusedVariables false
theorem floorI_t (x : It) : (floorI x).t = ⟨#[]⟩ := by unfold floorI; split; exact ofQ_t _; rfl
theorem roundI_t (x : It) : (roundI x).t = ⟨#[]⟩ := by unfold roundI; split; exact ofQ_t _; rfl
theorem quoI_t (x y : It) : (quoI x y).t = ⟨#[]⟩ := by unfold quoI; split; exact ofQ_t _; rfl
theorem remI_t (x y : It) : (remI x y).t = ⟨#[]⟩ := by unfold remI; split; exact ofQ_t _; rfl

set_option maxHeartbeats 1000000 in
theorem implQuo (x y : It) (w : World) (hx : x.t.size ≤ 9223372036854775807) (hy : y.t.size ≤ 9223372036854775807) :
    Calls Tryz.prog 67 #[.agg #[.int .i64 x.n, .int .i64 x.d, .string x.t], .agg #[.int .i64 y.n, .int .i64 y.d, .string y.t]] w fun e w' => e = .returned (.agg #[.int .i64 (quoI x y).n, .int .i64 (quoI x y).d, .string (quoI x y).t]) ∧ Below w.heap.size w w' := by
  cases h : both x y
  · have X := Lib.hid (show quoI x y = noI by unfold quoI; simp [h])
    have N := Lib.hid h
    clear h
    go_enter Tryz.func67, Tryz.ntmps67
    go_wp2_with fail
    refine (areNo x y _ hx hy N.out).mono ?_
    rintro e w1 ⟨rfl, hb⟩
    obtain ⟨hc, hf⟩ := bcell hb
    have B1 := Lib.hid (below_then (below3 w _ _ _) hb)
    have G := Lib.hid (blk_below (g := w.heap.size + 2) hb (blk_new _ _ (by simp)))
    clear hb
    go_wp2
    rw [X.out]
    exact item_ret rfl rfl rfl G.out ⟨rfl, below_three B1.out (by omega) _ _ _⟩
  · by_cases h0 : y.n = 0
    · have X := Lib.hid (show quoI x y = noI by unfold quoI; rw [if_neg (by simp [h0])])
      have N := Lib.hid h
      have h0' : (y.n == 0) = true := by simp [h0]
      clear h h0
      go_enter Tryz.func67, Tryz.ntmps67
      go_wp2_with fail
      refine (areYes x y _ hx hy N.out).mono ?_
      rintro e w1 ⟨rfl, hb⟩
      obtain ⟨hc, hf⟩ := bcell hb
      have B1 := Lib.hid (below_then (below3 w _ _ _) hb)
      have G := Lib.hid (blk_below (g := w.heap.size + 2) hb (blk_new _ _ (by simp)))
      have hz : w.heap.size + 2 < w1.heap.size := by have := hb.size; simp at this; omega
      clear hb
      go_wp2
      rw [X.out]
      exact item_ret rfl rfl rfl G.out ⟨rfl, below_three B1.out (by omega) _ _ _⟩
    · have P := parts_in (both_iff.1 h).1 (both_iff.1 h).2
      have R := Lib.hid (implRatio x y)
      have PP := Lib.hid (show (-999999998000000001 ≤ x.n * y.d ∧ x.n * y.d ≤ 999999998000000001) ∧ (-999999998000000001 ≤ x.d * y.n ∧ x.d * y.n ≤ 999999998000000001) by omega)
      have D := Lib.hid (show x.d * y.n ≠ 0 from Int.mul_ne_zero (by have := isN_iff.1 (both_iff.1 h).1; omega) h0)
      have N := Lib.hid h
      have h0' : (y.n == 0) = false := by simp [h0]
      have X := Lib.hid (quo_mk h h0)
      have XT := Lib.hid (quoI_t x y)
      clear h P h0
      go_enter Tryz.func67, Tryz.ntmps67
      go_wp2_with fail
      refine (areYes x y _ hx hy N.out).mono ?_
      rintro e w1 ⟨rfl, hb⟩
      obtain ⟨hc, hf⟩ := bcell hb
      have B1 := Lib.hid (below_then (below3 w _ _ _) hb)
      have G := Lib.hid (blk_below (g := w.heap.size + 2) hb (blk_new _ _ (by simp)))
      have hz : w.heap.size + 2 < w1.heap.size := by have := hb.size; simp at this; omega
      clear hb
      go_wp2_with fail
      refine (R.out _ PP.out).mono ?_
      rintro e w2 ⟨rfl, hb⟩
      obtain ⟨hc2, hf2⟩ := bcell hb
      have B2 := Lib.hid (below_then B1.out hb)
      have G2 := Lib.hid (blk_below hb G.out)
      have hz2 : w.heap.size + 2 < w2.heap.size := by have := hb.size; omega
      clear hb
      go_wp2_with fail
      refine (implFloorF (x.n * y.d) (x.d * y.n) _ (by have := PP.out; omega) (by have := PP.out; omega) (by have := PP.out; omega) (by have := PP.out; omega) D.out).mono ?_
      rintro e w3 ⟨rfl, hb⟩
      obtain ⟨hc3, hf3⟩ := bcell hb
      have B3 := Lib.hid (below_then B2.out hb)
      have G3 := Lib.hid (blk_below hb G2.out)
      clear hb
      rw [X.out]
      go_wp2
      rw [XT.out]
      exact item_ret rfl rfl rfl G3.out ⟨rfl, below_three B3.out (by omega) _ _ _⟩
end Go.Proofs.YtjpdnabfpiengaaGreat

/- The reference's arithmetic, each function against its plain one. -/
namespace Go.Proofs.YtjpdnabfpiengaaGreat
set_option maxRecDepth 100000
open Go.RowKit
set_option linter.unusedVariables false
theorem floorS_t (x : It) : (floorI x).t = ⟨#[]⟩ := by unfold floorI; split; exact ofQ_t _; rfl
theorem roundS_t (x : It) : (roundI x).t = ⟨#[]⟩ := by unfold roundI; split; exact ofQ_t _; rfl
theorem quoS_t (x y : It) : (quoI x y).t = ⟨#[]⟩ := by unfold quoI; split; exact ofQ_t _; rfl
theorem remS_t (x y : It) : (remI x y).t = ⟨#[]⟩ := by unfold remI; split; exact ofQ_t _; rfl
theorem not_both1 {x y : It} (h : isN x = false) : both x y = false := by unfold both; rw [h]; rfl
theorem not_both2 {x y : It} (h : isN y = false) : both x y = false := by unfold both; rw [h]; simp
theorem add_no {x y : It} (h : both x y = false) : addI x y = noI := by unfold addI; simp [h]
theorem mul_no {x y : It} (h : both x y = false) : mulI x y = noI := by unfold mulI; simp [h]
theorem div_no {x y : It} (h : both x y = false) : divI x y = noI := by unfold divI; simp [h]
theorem quo_no {x y : It} (h : both x y = false) : quoI x y = noI := by unfold quoI; simp [h]
theorem rem_no {x y : It} (h : both x y = false) : remI x y = noI := by unfold remI; simp [h]
theorem quo_no0 {x y : It} (h : y.n = 0) : quoI x y = noI := by unfold quoI; simp [h]
theorem rem_no0 {x y : It} (h : y.n = 0) : remI x y = noI := by unfold remI; simp [h]

set_option maxHeartbeats 2000000 in
theorem specAdd (x y : It) (w : World) (hx : x.t.size ≤ 9223372036854775807) (hy : y.t.size ≤ 9223372036854775807) :
    Calls Tryz.prog 52 #[.agg #[.int .i64 x.n, .int .i64 x.d, .string x.t], .agg #[.int .i64 y.n, .int .i64 y.d, .string y.t]] w fun e w' => e = .returned (.agg #[.int .i64 (addI x y).n, .int .i64 (addI x y).d, .string (addI x y).t]) ∧ Below w.heap.size w w' := by
  cases h : isN x
  · have X := Lib.hid (add_no (y := y) (not_both1 h))
    have NX := Lib.hid (show isN ⟨x.n, x.d, x.t⟩ = false from h)
    clear h
    go_enter Tryz.func52, Tryz.ntmps52
    go_wp2_with fail
    refine (specNumNo x.n x.d x.t _ hx NX.out).mono ?_
    rintro e w1 ⟨rfl, hb⟩
    obtain ⟨hc, hf⟩ := bcell hb
    have W1 := Lib.hid hb
    have B1 := Lib.hid (below_then (below3 w _ _ _) hb)
    have G1 := Lib.hid (blk_below (g := w.heap.size + 2) hb (blk_new _ _ (by simp)))
    have hz : w.heap.size + 2 < w1.heap.size := by have := hb.size; simp at this; omega
    clear hb
    go_wp2
    rw [X.out]
    exact item_ret rfl rfl rfl G1.out ⟨rfl, below_three B1.out (by omega) _ _ _⟩
  · cases k : isN y
    · have X := Lib.hid (add_no (x := x) (not_both2 k))
      have NX := Lib.hid (show isN ⟨x.n, x.d, x.t⟩ = true from h)
      have NY := Lib.hid (show isN ⟨y.n, y.d, y.t⟩ = false from k)
      clear h k
      go_enter Tryz.func52, Tryz.ntmps52
      go_wp2_with fail
      refine (specNumYes x.n x.d x.t _ hx NX.out).mono ?_
      rintro e w1 ⟨rfl, hb⟩
      obtain ⟨hc, hf⟩ := bcell hb
      have W1 := Lib.hid hb
      have B1 := Lib.hid (below_then (below3 w _ _ _) hb)
      have G1 := Lib.hid (blk_below (g := w.heap.size + 2) hb (blk_new _ _ (by simp)))
      have hz : w.heap.size + 2 < w1.heap.size := by have := hb.size; simp at this; omega
      clear hb
      go_wp2_with fail
      refine (specNumNo y.n y.d y.t _ hy NY.out).mono ?_
      rintro e w2 ⟨rfl, hb⟩
      have W2 := Lib.hid (W1.out.trans (hb.mono W1.out.size))
      clear hc hf
      obtain ⟨hc2, hf2⟩ := bcell W2.out
      have B2 := Lib.hid (below_then B1.out hb)
      have G2 := Lib.hid (blk_below hb G1.out)
      have hz2 : w.heap.size + 2 < w2.heap.size := by have := hb.size; omega
      clear hb
      go_wp2
      rw [X.out]
      exact item_ret rfl rfl rfl G2.out ⟨rfl, below_three B2.out (by omega) _ _ _⟩
    · have hB : both x y = true := both_iff.2 ⟨h, k⟩
      have P := parts_in h k
      have NX := Lib.hid (show isN ⟨x.n, x.d, x.t⟩ = true from h)
      have NY := Lib.hid (show isN ⟨y.n, y.d, y.t⟩ = true from k)
      have X := Lib.hid (add_mk hB)
      have XT := Lib.hid (addI_t x y)
      have a0 : -999999998000000001 ≤ x.n * y.d := by omega
      have a1 : x.n * y.d ≤ 999999998000000001 := by omega
      have b0 : -999999998000000001 ≤ y.n * x.d := by omega
      have b1 : y.n * x.d ≤ 999999998000000001 := by omega
      have c0 : -999999998000000001 ≤ x.d * y.d := by omega
      have c1 : x.d * y.d ≤ 999999998000000001 := by omega
      clear h k hB P
      go_enter Tryz.func52, Tryz.ntmps52
      go_wp2_with fail
      refine (specNumYes x.n x.d x.t _ hx NX.out).mono ?_
      rintro e w1 ⟨rfl, hb⟩
      obtain ⟨hc, hf⟩ := bcell hb
      have W1 := Lib.hid hb
      have B1 := Lib.hid (below_then (below3 w _ _ _) hb)
      have G1 := Lib.hid (blk_below (g := w.heap.size + 2) hb (blk_new _ _ (by simp)))
      have hz : w.heap.size + 2 < w1.heap.size := by have := hb.size; simp at this; omega
      clear hb
      go_wp2_with fail
      refine (specNumYes y.n y.d y.t _ hy NY.out).mono ?_
      rintro e w2 ⟨rfl, hb⟩
      have W2 := Lib.hid (W1.out.trans (hb.mono W1.out.size))
      clear hc hf
      obtain ⟨hc2, hf2⟩ := bcell W2.out
      have B2 := Lib.hid (below_then B1.out hb)
      have G2 := Lib.hid (blk_below hb G1.out)
      have hz2 : w.heap.size + 2 < w2.heap.size := by have := hb.size; omega
      clear hb
      go_wp2_with fail
      refine (specMake (x.n * y.d + y.n * x.d) (x.d * y.d) _ ⟨by omega, by omega⟩ ⟨by omega, by omega⟩).mono ?_
      rintro e w3 ⟨rfl, hb⟩
      have W3 := Lib.hid (W2.out.trans (hb.mono W2.out.size))
      clear hc2 hf2
      obtain ⟨hc3, hf3⟩ := bcell W3.out
      have B3 := Lib.hid (below_then B2.out hb)
      have G3 := Lib.hid (blk_below hb G2.out)
      clear hb
      rw [X.out]
      go_wp2
      rw [XT.out]
      exact item_ret rfl rfl rfl G3.out ⟨rfl, below_three B3.out (by omega) _ _ _⟩

set_option maxHeartbeats 2000000 in
theorem specMul (x y : It) (w : World) (hx : x.t.size ≤ 9223372036854775807) (hy : y.t.size ≤ 9223372036854775807) :
    Calls Tryz.prog 54 #[.agg #[.int .i64 x.n, .int .i64 x.d, .string x.t], .agg #[.int .i64 y.n, .int .i64 y.d, .string y.t]] w fun e w' => e = .returned (.agg #[.int .i64 (mulI x y).n, .int .i64 (mulI x y).d, .string (mulI x y).t]) ∧ Below w.heap.size w w' := by
  cases h : isN x
  · have X := Lib.hid (mul_no (y := y) (not_both1 h))
    have NX := Lib.hid (show isN ⟨x.n, x.d, x.t⟩ = false from h)
    clear h
    go_enter Tryz.func54, Tryz.ntmps54
    go_wp2_with fail
    refine (specNumNo x.n x.d x.t _ hx NX.out).mono ?_
    rintro e w1 ⟨rfl, hb⟩
    obtain ⟨hc, hf⟩ := bcell hb
    have W1 := Lib.hid hb
    have B1 := Lib.hid (below_then (below3 w _ _ _) hb)
    have G1 := Lib.hid (blk_below (g := w.heap.size + 2) hb (blk_new _ _ (by simp)))
    have hz : w.heap.size + 2 < w1.heap.size := by have := hb.size; simp at this; omega
    clear hb
    go_wp2
    rw [X.out]
    exact item_ret rfl rfl rfl G1.out ⟨rfl, below_three B1.out (by omega) _ _ _⟩
  · cases k : isN y
    · have X := Lib.hid (mul_no (x := x) (not_both2 k))
      have NX := Lib.hid (show isN ⟨x.n, x.d, x.t⟩ = true from h)
      have NY := Lib.hid (show isN ⟨y.n, y.d, y.t⟩ = false from k)
      clear h k
      go_enter Tryz.func54, Tryz.ntmps54
      go_wp2_with fail
      refine (specNumYes x.n x.d x.t _ hx NX.out).mono ?_
      rintro e w1 ⟨rfl, hb⟩
      obtain ⟨hc, hf⟩ := bcell hb
      have W1 := Lib.hid hb
      have B1 := Lib.hid (below_then (below3 w _ _ _) hb)
      have G1 := Lib.hid (blk_below (g := w.heap.size + 2) hb (blk_new _ _ (by simp)))
      have hz : w.heap.size + 2 < w1.heap.size := by have := hb.size; simp at this; omega
      clear hb
      go_wp2_with fail
      refine (specNumNo y.n y.d y.t _ hy NY.out).mono ?_
      rintro e w2 ⟨rfl, hb⟩
      have W2 := Lib.hid (W1.out.trans (hb.mono W1.out.size))
      clear hc hf
      obtain ⟨hc2, hf2⟩ := bcell W2.out
      have B2 := Lib.hid (below_then B1.out hb)
      have G2 := Lib.hid (blk_below hb G1.out)
      have hz2 : w.heap.size + 2 < w2.heap.size := by have := hb.size; omega
      clear hb
      go_wp2
      rw [X.out]
      exact item_ret rfl rfl rfl G2.out ⟨rfl, below_three B2.out (by omega) _ _ _⟩
    · have hB : both x y = true := both_iff.2 ⟨h, k⟩
      have P := parts_in h k
      have NX := Lib.hid (show isN ⟨x.n, x.d, x.t⟩ = true from h)
      have NY := Lib.hid (show isN ⟨y.n, y.d, y.t⟩ = true from k)
      have X := Lib.hid (mul_mk hB)
      have XT := Lib.hid (mulI_t x y)
      have a0 : -999999998000000001 ≤ x.n * y.n := by omega
      have a1 : x.n * y.n ≤ 999999998000000001 := by omega
      have c0 : -999999998000000001 ≤ x.d * y.d := by omega
      have c1 : x.d * y.d ≤ 999999998000000001 := by omega
      clear h k hB P
      go_enter Tryz.func54, Tryz.ntmps54
      go_wp2_with fail
      refine (specNumYes x.n x.d x.t _ hx NX.out).mono ?_
      rintro e w1 ⟨rfl, hb⟩
      obtain ⟨hc, hf⟩ := bcell hb
      have W1 := Lib.hid hb
      have B1 := Lib.hid (below_then (below3 w _ _ _) hb)
      have G1 := Lib.hid (blk_below (g := w.heap.size + 2) hb (blk_new _ _ (by simp)))
      have hz : w.heap.size + 2 < w1.heap.size := by have := hb.size; simp at this; omega
      clear hb
      go_wp2_with fail
      refine (specNumYes y.n y.d y.t _ hy NY.out).mono ?_
      rintro e w2 ⟨rfl, hb⟩
      have W2 := Lib.hid (W1.out.trans (hb.mono W1.out.size))
      clear hc hf
      obtain ⟨hc2, hf2⟩ := bcell W2.out
      have B2 := Lib.hid (below_then B1.out hb)
      have G2 := Lib.hid (blk_below hb G1.out)
      have hz2 : w.heap.size + 2 < w2.heap.size := by have := hb.size; omega
      clear hb
      go_wp2_with fail
      refine (specMake (x.n * y.n) (x.d * y.d) _ ⟨by omega, by omega⟩ ⟨by omega, by omega⟩).mono ?_
      rintro e w3 ⟨rfl, hb⟩
      have W3 := Lib.hid (W2.out.trans (hb.mono W2.out.size))
      clear hc2 hf2
      obtain ⟨hc3, hf3⟩ := bcell W3.out
      have B3 := Lib.hid (below_then B2.out hb)
      have G3 := Lib.hid (blk_below hb G2.out)
      clear hb
      rw [X.out]
      go_wp2
      rw [XT.out]
      exact item_ret rfl rfl rfl G3.out ⟨rfl, below_three B3.out (by omega) _ _ _⟩

set_option maxHeartbeats 2000000 in
theorem specDiv (x y : It) (w : World) (hx : x.t.size ≤ 9223372036854775807) (hy : y.t.size ≤ 9223372036854775807) :
    Calls Tryz.prog 55 #[.agg #[.int .i64 x.n, .int .i64 x.d, .string x.t], .agg #[.int .i64 y.n, .int .i64 y.d, .string y.t]] w fun e w' => e = .returned (.agg #[.int .i64 (divI x y).n, .int .i64 (divI x y).d, .string (divI x y).t]) ∧ Below w.heap.size w w' := by
  cases h : isN x
  · have X := Lib.hid (div_no (y := y) (not_both1 h))
    have NX := Lib.hid (show isN ⟨x.n, x.d, x.t⟩ = false from h)
    clear h
    go_enter Tryz.func55, Tryz.ntmps55
    go_wp2_with fail
    refine (specNumNo x.n x.d x.t _ hx NX.out).mono ?_
    rintro e w1 ⟨rfl, hb⟩
    obtain ⟨hc, hf⟩ := bcell hb
    have W1 := Lib.hid hb
    have B1 := Lib.hid (below_then (below3 w _ _ _) hb)
    have G1 := Lib.hid (blk_below (g := w.heap.size + 2) hb (blk_new _ _ (by simp)))
    have hz : w.heap.size + 2 < w1.heap.size := by have := hb.size; simp at this; omega
    clear hb
    go_wp2
    rw [X.out]
    exact item_ret rfl rfl rfl G1.out ⟨rfl, below_three B1.out (by omega) _ _ _⟩
  · cases k : isN y
    · have X := Lib.hid (div_no (x := x) (not_both2 k))
      have NX := Lib.hid (show isN ⟨x.n, x.d, x.t⟩ = true from h)
      have NY := Lib.hid (show isN ⟨y.n, y.d, y.t⟩ = false from k)
      clear h k
      go_enter Tryz.func55, Tryz.ntmps55
      go_wp2_with fail
      refine (specNumYes x.n x.d x.t _ hx NX.out).mono ?_
      rintro e w1 ⟨rfl, hb⟩
      obtain ⟨hc, hf⟩ := bcell hb
      have W1 := Lib.hid hb
      have B1 := Lib.hid (below_then (below3 w _ _ _) hb)
      have G1 := Lib.hid (blk_below (g := w.heap.size + 2) hb (blk_new _ _ (by simp)))
      have hz : w.heap.size + 2 < w1.heap.size := by have := hb.size; simp at this; omega
      clear hb
      go_wp2_with fail
      refine (specNumNo y.n y.d y.t _ hy NY.out).mono ?_
      rintro e w2 ⟨rfl, hb⟩
      have W2 := Lib.hid (W1.out.trans (hb.mono W1.out.size))
      clear hc hf
      obtain ⟨hc2, hf2⟩ := bcell W2.out
      have B2 := Lib.hid (below_then B1.out hb)
      have G2 := Lib.hid (blk_below hb G1.out)
      have hz2 : w.heap.size + 2 < w2.heap.size := by have := hb.size; omega
      clear hb
      go_wp2
      rw [X.out]
      exact item_ret rfl rfl rfl G2.out ⟨rfl, below_three B2.out (by omega) _ _ _⟩
    · have hB : both x y = true := both_iff.2 ⟨h, k⟩
      have P := parts_in h k
      have NX := Lib.hid (show isN ⟨x.n, x.d, x.t⟩ = true from h)
      have NY := Lib.hid (show isN ⟨y.n, y.d, y.t⟩ = true from k)
      have X := Lib.hid (div_mk hB)
      have XT := Lib.hid (divI_t x y)
      have a0 : -999999998000000001 ≤ x.n * y.d := by omega
      have a1 : x.n * y.d ≤ 999999998000000001 := by omega
      have c0 : -999999998000000001 ≤ x.d * y.n := by omega
      have c1 : x.d * y.n ≤ 999999998000000001 := by omega
      clear h k hB P
      go_enter Tryz.func55, Tryz.ntmps55
      go_wp2_with fail
      refine (specNumYes x.n x.d x.t _ hx NX.out).mono ?_
      rintro e w1 ⟨rfl, hb⟩
      obtain ⟨hc, hf⟩ := bcell hb
      have W1 := Lib.hid hb
      have B1 := Lib.hid (below_then (below3 w _ _ _) hb)
      have G1 := Lib.hid (blk_below (g := w.heap.size + 2) hb (blk_new _ _ (by simp)))
      have hz : w.heap.size + 2 < w1.heap.size := by have := hb.size; simp at this; omega
      clear hb
      go_wp2_with fail
      refine (specNumYes y.n y.d y.t _ hy NY.out).mono ?_
      rintro e w2 ⟨rfl, hb⟩
      have W2 := Lib.hid (W1.out.trans (hb.mono W1.out.size))
      clear hc hf
      obtain ⟨hc2, hf2⟩ := bcell W2.out
      have B2 := Lib.hid (below_then B1.out hb)
      have G2 := Lib.hid (blk_below hb G1.out)
      have hz2 : w.heap.size + 2 < w2.heap.size := by have := hb.size; omega
      clear hb
      go_wp2_with fail
      refine (specMake (x.n * y.d) (x.d * y.n) _ ⟨by omega, by omega⟩ ⟨by omega, by omega⟩).mono ?_
      rintro e w3 ⟨rfl, hb⟩
      have W3 := Lib.hid (W2.out.trans (hb.mono W2.out.size))
      clear hc2 hf2
      obtain ⟨hc3, hf3⟩ := bcell W3.out
      have B3 := Lib.hid (below_then B2.out hb)
      have G3 := Lib.hid (blk_below hb G2.out)
      clear hb
      rw [X.out]
      go_wp2
      rw [XT.out]
      exact item_ret rfl rfl rfl G3.out ⟨rfl, below_three B3.out (by omega) _ _ _⟩

set_option maxHeartbeats 1000000 in
theorem specNeg (x : It) (w : World) (hx : x.t.size ≤ 9223372036854775807) :
    Calls Tryz.prog 79 #[.agg #[.int .i64 x.n, .int .i64 x.d, .string x.t]] w fun e w' => e = .returned (.agg #[.int .i64 (negI x).n, .int .i64 (negI x).d, .string (negI x).t]) ∧ Below w.heap.size w w' := by
  cases h : isN x
  · have X := Lib.hid (show negI x = noI by unfold negI; simp [h])
    have NX := Lib.hid (show isN ⟨x.n, x.d, x.t⟩ = false from h)
    clear h
    go_enter Tryz.func79, Tryz.ntmps79
    go_wp2_with fail
    refine (specNumNo x.n x.d x.t _ hx NX.out).mono ?_
    rintro e w1 ⟨rfl, hb⟩
    obtain ⟨hc, hf⟩ := bcell hb
    have W1 := Lib.hid hb
    have B1 := Lib.hid (below_then (below2 w _ _) hb)
    have G1 := Lib.hid (blk_below (g := w.heap.size + 1) hb (blk_new _ _ (by simp)))
    have hz : w.heap.size + 1 < w1.heap.size := by have := hb.size; simp at this; omega
    clear hb
    go_wp2
    rw [X.out]
    exact item_ret rfl rfl rfl G1.out ⟨rfl, below_three B1.out (by omega) _ _ _⟩
  · have P := isN_iff.1 h
    have p0 : -999999999 ≤ x.n := P.2.2.2.1
    have p1 : x.n ≤ 999999999 := P.2.2.2.2.1
    have p2 : 1 ≤ x.d := P.2.1
    have p3 : x.d ≤ 999999999 := P.2.2.1
    have NX := Lib.hid (show isN ⟨x.n, x.d, x.t⟩ = true from h)
    have X := Lib.hid (neg_mk h)
    clear h P
    go_enter Tryz.func79, Tryz.ntmps79
    go_wp2_with fail
    refine (specNumYes x.n x.d x.t _ hx NX.out).mono ?_
    rintro e w1 ⟨rfl, hb⟩
    obtain ⟨hc, hf⟩ := bcell hb
    have W1 := Lib.hid hb
    have B1 := Lib.hid (below_then (below2 w _ _) hb)
    have G1 := Lib.hid (blk_below (g := w.heap.size + 1) hb (blk_new _ _ (by simp)))
    have hz : w.heap.size + 1 < w1.heap.size := by have := hb.size; simp at this; omega
    clear hb
    go_wp2
    rw [← X.out]
    exact item_ret rfl rfl rfl G1.out ⟨rfl, below_three B1.out (by omega) _ _ _⟩

set_option maxHeartbeats 1000000 in
theorem specFl (n d : Int) (w : World) (n0 : -4000000000000000000 ≤ n) (n1 : n ≤ 4000000000000000000) (d0 : 0 < d) (d1 : d ≤ 4000000000000000000) :
    Calls Tryz.prog 82 #[.int .i64 n, .int .i64 d] w fun e w' => e = .returned (.int .i64 (n.fdiv d)) ∧ w = w' := by
  have X := flS_eq (n := n) d0
  unfold flS at X
  obtain ⟨r0, r1, _⟩ := tmod_in2 (x := n) (show d ≠ 0 by omega) (by omega) d1
  have q := Int.natAbs_tdiv_le_natAbs n d
  have q0 : -4000000000000000000 ≤ n.tdiv d := by omega
  have q1 : n.tdiv d ≤ 4000000000000000000 := by omega
  clear q
  by_cases c : n.tmod d < 0
  · rw [if_pos c] at X
    have XX := Lib.hid X
    clear X
    go_enter Tryz.func82, Tryz.ntmps82
    go_wp2
    go_ret
    exact ⟨ret_i XX.out, rfl⟩
  · rw [if_neg c] at X
    have XX := Lib.hid X
    clear X
    go_enter Tryz.func82, Tryz.ntmps82
    go_wp2
    go_ret
    exact ⟨ret_i XX.out, rfl⟩

theorem ret_ii {a b c d : Int} (h : a = c) (k : b = d) : Ending.returned (.tuple #[.int .i64 a, .int .i64 b]) = .returned (.tuple #[.int .i64 c, .int .i64 d]) := by rw [h, k]
/-- The two parts with a positive second one. -/
def flip1 (x y : It) : Int := if y.n < 0 then -(x.n * y.d) else x.n * y.d
def flip2 (x y : It) : Int := if y.n < 0 then -(x.d * y.n) else x.d * y.n
set_option maxHeartbeats 1000000 in
theorem specParts (x y : It) (w : World) (d1 : 1 ≤ x.d) (P : (-999999998000000001 ≤ x.n * y.d ∧ x.n * y.d ≤ 999999998000000001) ∧ (-999999998000000001 ≤ x.d * y.n ∧ x.d * y.n ≤ 999999998000000001)) :
    Calls Tryz.prog 81 #[.agg #[.int .i64 x.n, .int .i64 x.d, .string x.t], .agg #[.int .i64 y.n, .int .i64 y.d, .string y.t]] w fun e w' => e = .returned (.tuple #[.int .i64 (flip1 x y), .int .i64 (flip2 x y)]) ∧ Below w.heap.size w w' := by
  have e : x.d * y.n = y.n * x.d := Int.mul_comm ..
  rw [e] at P
  have a0 := P.1.1
  have a1 := P.1.2
  have b0 := P.2.1
  have b1 := P.2.2
  clear P e
  by_cases c : y.n < 0
  · have X1 := Lib.hid (show flip1 x y = -(x.n * y.d) by unfold flip1; rw [if_pos c])
    have X2 := Lib.hid (show flip2 x y = -(y.n * x.d) by unfold flip2; rw [if_pos c, Int.mul_comm])
    have c' : y.n * x.d < 0 := Int.mul_neg_of_neg_of_pos c (by omega)
    clear c
    go_enter Tryz.func81, Tryz.ntmps81
    go_wp2
    go_ret2
    exact ⟨ret_ii X1.out.symm X2.out.symm, below2 w _ _⟩
  · have X1 := Lib.hid (show flip1 x y = x.n * y.d by unfold flip1; rw [if_neg c])
    have X2 := Lib.hid (show flip2 x y = y.n * x.d by unfold flip2; rw [if_neg c, Int.mul_comm])
    have c' : 0 ≤ y.n * x.d := Int.mul_nonneg (by omega) (by omega)
    clear c
    go_enter Tryz.func81, Tryz.ntmps81
    go_wp2
    go_ret2
    exact ⟨ret_ii X1.out.symm X2.out.symm, below2 w _ _⟩
/-- What the two parts say. -/
theorem flip_facts {x y : It} (h : both x y = true) (h0 : y.n ≠ 0) : ∃ p s : Int, flip1 x y = p ∧ flip2 x y = s ∧ (-999999998000000001 ≤ p ∧ p ≤ 999999998000000001) ∧ 0 < s ∧ s ≤ 999999998000000001 ∧
    mkI (p.fdiv s) 1 = quoI x y ∧ (y.n < 0 → mkI (-(p - s * p.fdiv s)) (x.d * y.d) = remI x y) ∧ (¬ y.n < 0 → mkI (p - s * p.fdiv s) (x.d * y.d) = remI x y) ∧ (-1000000000000000000 ≤ p.fdiv s ∧ p.fdiv s ≤ 1000000000000000000) ∧
    (-999999998000000001 ≤ s * p.fdiv s - p ∧ s * p.fdiv s - p ≤ 999999998000000001) := by
  obtain ⟨hx, hy⟩ := both_iff.1 h
  have P := parts_in hx hy
  have a := isN_iff.1 hx
  have b := isN_iff.1 hy
  have hz : x.d * y.n ≠ 0 := Int.mul_ne_zero (by omega) h0
  have q := quo_mk h h0
  have r := rem_mk h h0
  have e := Int.fmod_add_mul_fdiv (x.n * y.d) (x.d * y.n)
  have fm := fmod_in (n := x.n * y.d) (d := x.d * y.n) (A := 999999998000000001) (by omega) (by omega) hz
  have fd := fdiv_in (n := x.n * y.d) (d := x.d * y.n) (A := 999999998000000001) hz (by omega) (by omega)
  refine ⟨_, _, rfl, rfl, ?_⟩
  unfold flip1 flip2
  by_cases c : y.n < 0
  · have s0 : x.d * y.n < 0 := Int.mul_neg_of_pos_of_neg (by omega) c
    rw [if_pos c, if_pos c, Int.neg_fdiv_neg, Int.neg_mul]
    refine ⟨by omega, by omega, by omega, q, fun _ => ?_, fun k => absurd c k, by omega, by omega⟩
    rw [← r]; congr 1; omega
  · have s0 : 0 < x.d * y.n := Int.mul_pos (by omega) (by omega)
    rw [if_neg c, if_neg c]
    refine ⟨by omega, by omega, by omega, q, fun k => absurd k c, fun _ => ?_, by omega, by omega⟩
    rw [← r]; congr 1; omega

set_option maxHeartbeats 2000000 in
theorem specQuo (x y : It) (w : World) (hx : x.t.size ≤ 9223372036854775807) (hy : y.t.size ≤ 9223372036854775807) :
    Calls Tryz.prog 58 #[.agg #[.int .i64 x.n, .int .i64 x.d, .string x.t], .agg #[.int .i64 y.n, .int .i64 y.d, .string y.t]] w fun e w' => e = .returned (.agg #[.int .i64 (quoI x y).n, .int .i64 (quoI x y).d, .string (quoI x y).t]) ∧ Below w.heap.size w w' := by
  cases h : isN x
  · have X := Lib.hid (quo_no (y := y) (not_both1 h))
    have NX := Lib.hid (show isN ⟨x.n, x.d, x.t⟩ = false from h)
    clear h
    go_enter Tryz.func58, Tryz.ntmps58
    go_wp2_with fail
    refine (specNumNo x.n x.d x.t _ hx NX.out).mono ?_
    rintro e w1 ⟨rfl, hb⟩
    obtain ⟨hc, hf⟩ := bcell hb
    have W1 := Lib.hid hb
    have B1 := Lib.hid (below_then (below3 w _ _ _) hb)
    have G1 := Lib.hid (blk_below (g := w.heap.size + 2) hb (blk_new _ _ (by simp)))
    have hz : w.heap.size + 2 < w1.heap.size := by have := hb.size; simp at this; omega
    clear hb
    go_wp2
    rw [X.out]
    exact item_ret rfl rfl rfl G1.out ⟨rfl, below_three B1.out (by omega) _ _ _⟩
  · cases k : isN y
    · have X := Lib.hid (quo_no (x := x) (not_both2 k))
      have NX := Lib.hid (show isN ⟨x.n, x.d, x.t⟩ = true from h)
      have NY := Lib.hid (show isN ⟨y.n, y.d, y.t⟩ = false from k)
      clear h k
      go_enter Tryz.func58, Tryz.ntmps58
      go_wp2_with fail
      refine (specNumYes x.n x.d x.t _ hx NX.out).mono ?_
      rintro e w1 ⟨rfl, hb⟩
      obtain ⟨hc, hf⟩ := bcell hb
      have W1 := Lib.hid hb
      have B1 := Lib.hid (below_then (below3 w _ _ _) hb)
      have G1 := Lib.hid (blk_below (g := w.heap.size + 2) hb (blk_new _ _ (by simp)))
      have hz : w.heap.size + 2 < w1.heap.size := by have := hb.size; simp at this; omega
      clear hb
      go_wp2_with fail
      refine (specNumNo y.n y.d y.t _ hy NY.out).mono ?_
      rintro e w2 ⟨rfl, hb⟩
      have W2 := Lib.hid (W1.out.trans (hb.mono W1.out.size))
      clear hc hf
      obtain ⟨hc2, hf2⟩ := bcell W2.out
      have B2 := Lib.hid (below_then B1.out hb)
      have G2 := Lib.hid (blk_below hb G1.out)
      have hz2 : w.heap.size + 2 < w2.heap.size := by have := hb.size; omega
      clear hb
      go_wp2
      rw [X.out]
      exact item_ret rfl rfl rfl G2.out ⟨rfl, below_three B2.out (by omega) _ _ _⟩
    · have hB : both x y = true := both_iff.2 ⟨h, k⟩
      have P := parts_in h k
      have NX := Lib.hid (show isN ⟨x.n, x.d, x.t⟩ = true from h)
      have NY := Lib.hid (show isN ⟨y.n, y.d, y.t⟩ = true from k)
      by_cases h0 : y.n = 0
      · have X := Lib.hid (quo_no0 (x := x) h0)
        have h0' : (y.n == 0) = true := by simp [h0]
        clear h k hB P h0
        go_enter Tryz.func58, Tryz.ntmps58
        go_wp2_with fail
        refine (specNumYes x.n x.d x.t _ hx NX.out).mono ?_
        rintro e w1 ⟨rfl, hb⟩
        obtain ⟨hc, hf⟩ := bcell hb
        have W1 := Lib.hid hb
        have B1 := Lib.hid (below_then (below3 w _ _ _) hb)
        have G1 := Lib.hid (blk_below (g := w.heap.size + 2) hb (blk_new _ _ (by simp)))
        have hz : w.heap.size + 2 < w1.heap.size := by have := hb.size; simp at this; omega
        clear hb
        go_wp2_with fail
        refine (specNumYes y.n y.d y.t _ hy NY.out).mono ?_
        rintro e w2 ⟨rfl, hb⟩
        have W2 := Lib.hid (W1.out.trans (hb.mono W1.out.size))
        clear hc hf
        obtain ⟨hc2, hf2⟩ := bcell W2.out
        have B2 := Lib.hid (below_then B1.out hb)
        have G2 := Lib.hid (blk_below hb G1.out)
        have hz2 : w.heap.size + 2 < w2.heap.size := by have := hb.size; omega
        clear hb
        go_wp2
        rw [X.out]
        exact item_ret rfl rfl rfl G2.out ⟨rfl, below_three B2.out (by omega) _ _ _⟩
      · have h0' : (y.n == 0) = false := by simp [h0]
        have dx := (isN_iff.1 h).2.1
        have C := Lib.hid (fun W => specParts x y W dx ⟨by omega, by omega⟩)
        obtain ⟨p, s, e1, e2, ⟨p0, p1⟩, s0, s1, q1, r1, r2, ⟨f0, f1⟩, ⟨g0, g1⟩⟩ := flip_facts hB h0
        rw [e1, e2] at C
        have XT := Lib.hid (quoS_t x y)
        have X := Lib.hid q1
        clear h k hB P h0 e1 e2 q1 r1 r2
        go_enter Tryz.func58, Tryz.ntmps58
        go_wp2_with fail
        refine (specNumYes x.n x.d x.t _ hx NX.out).mono ?_
        rintro e w1 ⟨rfl, hb⟩
        obtain ⟨hc, hf⟩ := bcell hb
        have W1 := Lib.hid hb
        have B1 := Lib.hid (below_then (below3 w _ _ _) hb)
        have G1 := Lib.hid (blk_below (g := w.heap.size + 2) hb (blk_new _ _ (by simp)))
        have hz : w.heap.size + 2 < w1.heap.size := by have := hb.size; simp at this; omega
        clear hb
        go_wp2_with fail
        refine (specNumYes y.n y.d y.t _ hy NY.out).mono ?_
        rintro e w2 ⟨rfl, hb⟩
        have W2 := Lib.hid (W1.out.trans (hb.mono W1.out.size))
        clear hc hf
        obtain ⟨hc2, hf2⟩ := bcell W2.out
        have B2 := Lib.hid (below_then B1.out hb)
        have G2 := Lib.hid (blk_below hb G1.out)
        have hz2 : w.heap.size + 2 < w2.heap.size := by have := hb.size; omega
        clear hb
        go_wp2_with fail
        refine (C.out _).mono ?_
        rintro e w3 ⟨rfl, hb⟩
        have W3 := Lib.hid (W2.out.trans (hb.mono W2.out.size))
        clear hc2 hf2
        obtain ⟨hc3, hf3⟩ := bcell W3.out
        have B3 := Lib.hid (below_then B2.out hb)
        have G3 := Lib.hid (blk_below hb G2.out)
        have hz3 : w.heap.size + 2 < w3.heap.size := by have := hb.size; omega
        clear hb
        go_wp2_with fail
        refine (specFl p s _ (by omega) (by omega) s0 (by omega)).mono ?_
        rintro e w' ⟨rfl, rfl⟩
        go_wp2_with fail
        refine (specMake (p.fdiv s) 1 _ ⟨by omega, by omega⟩ ⟨by omega, by omega⟩).mono ?_
        rintro e w4 ⟨rfl, hb⟩
        have W4 := Lib.hid (W3.out.trans (hb.mono W3.out.size))
        clear hc3 hf3
        obtain ⟨hc4, hf4⟩ := bcell W4.out
        have B4 := Lib.hid (below_then B3.out hb)
        have G4 := Lib.hid (blk_below hb G3.out)
        clear hb
        rw [X.out]
        go_wp2
        rw [XT.out]
        exact item_ret rfl rfl rfl G4.out ⟨rfl, below_three B4.out (by omega) _ _ _⟩

set_option maxHeartbeats 2000000 in
theorem specRem (x y : It) (w : World) (hx : x.t.size ≤ 9223372036854775807) (hy : y.t.size ≤ 9223372036854775807) :
    Calls Tryz.prog 57 #[.agg #[.int .i64 x.n, .int .i64 x.d, .string x.t], .agg #[.int .i64 y.n, .int .i64 y.d, .string y.t]] w fun e w' => e = .returned (.agg #[.int .i64 (remI x y).n, .int .i64 (remI x y).d, .string (remI x y).t]) ∧ Below w.heap.size w w' := by
  cases h : isN x
  · have X := Lib.hid (rem_no (y := y) (not_both1 h))
    have NX := Lib.hid (show isN ⟨x.n, x.d, x.t⟩ = false from h)
    clear h
    go_enter Tryz.func57, Tryz.ntmps57
    go_wp2_with fail
    refine (specNumNo x.n x.d x.t _ hx NX.out).mono ?_
    rintro e w1 ⟨rfl, hb⟩
    obtain ⟨hc, hf⟩ := bcell hb
    have W1 := Lib.hid hb
    have B1 := Lib.hid (below_then (below3 w _ _ _) hb)
    have G1 := Lib.hid (blk_below (g := w.heap.size + 2) hb (blk_new _ _ (by simp)))
    have hz : w.heap.size + 2 < w1.heap.size := by have := hb.size; simp at this; omega
    clear hb
    go_wp2
    rw [X.out]
    exact item_ret rfl rfl rfl G1.out ⟨rfl, below_three B1.out (by omega) _ _ _⟩
  · cases k : isN y
    · have X := Lib.hid (rem_no (x := x) (not_both2 k))
      have NX := Lib.hid (show isN ⟨x.n, x.d, x.t⟩ = true from h)
      have NY := Lib.hid (show isN ⟨y.n, y.d, y.t⟩ = false from k)
      clear h k
      go_enter Tryz.func57, Tryz.ntmps57
      go_wp2_with fail
      refine (specNumYes x.n x.d x.t _ hx NX.out).mono ?_
      rintro e w1 ⟨rfl, hb⟩
      obtain ⟨hc, hf⟩ := bcell hb
      have W1 := Lib.hid hb
      have B1 := Lib.hid (below_then (below3 w _ _ _) hb)
      have G1 := Lib.hid (blk_below (g := w.heap.size + 2) hb (blk_new _ _ (by simp)))
      have hz : w.heap.size + 2 < w1.heap.size := by have := hb.size; simp at this; omega
      clear hb
      go_wp2_with fail
      refine (specNumNo y.n y.d y.t _ hy NY.out).mono ?_
      rintro e w2 ⟨rfl, hb⟩
      have W2 := Lib.hid (W1.out.trans (hb.mono W1.out.size))
      clear hc hf
      obtain ⟨hc2, hf2⟩ := bcell W2.out
      have B2 := Lib.hid (below_then B1.out hb)
      have G2 := Lib.hid (blk_below hb G1.out)
      have hz2 : w.heap.size + 2 < w2.heap.size := by have := hb.size; omega
      clear hb
      go_wp2
      rw [X.out]
      exact item_ret rfl rfl rfl G2.out ⟨rfl, below_three B2.out (by omega) _ _ _⟩
    · have hB : both x y = true := both_iff.2 ⟨h, k⟩
      have P := parts_in h k
      have NX := Lib.hid (show isN ⟨x.n, x.d, x.t⟩ = true from h)
      have NY := Lib.hid (show isN ⟨y.n, y.d, y.t⟩ = true from k)
      by_cases h0 : y.n = 0
      · have X := Lib.hid (rem_no0 (x := x) h0)
        have h0' : (y.n == 0) = true := by simp [h0]
        clear h k hB P h0
        go_enter Tryz.func57, Tryz.ntmps57
        go_wp2_with fail
        refine (specNumYes x.n x.d x.t _ hx NX.out).mono ?_
        rintro e w1 ⟨rfl, hb⟩
        obtain ⟨hc, hf⟩ := bcell hb
        have W1 := Lib.hid hb
        have B1 := Lib.hid (below_then (below3 w _ _ _) hb)
        have G1 := Lib.hid (blk_below (g := w.heap.size + 2) hb (blk_new _ _ (by simp)))
        have hz : w.heap.size + 2 < w1.heap.size := by have := hb.size; simp at this; omega
        clear hb
        go_wp2_with fail
        refine (specNumYes y.n y.d y.t _ hy NY.out).mono ?_
        rintro e w2 ⟨rfl, hb⟩
        have W2 := Lib.hid (W1.out.trans (hb.mono W1.out.size))
        clear hc hf
        obtain ⟨hc2, hf2⟩ := bcell W2.out
        have B2 := Lib.hid (below_then B1.out hb)
        have G2 := Lib.hid (blk_below hb G1.out)
        have hz2 : w.heap.size + 2 < w2.heap.size := by have := hb.size; omega
        clear hb
        go_wp2
        rw [X.out]
        exact item_ret rfl rfl rfl G2.out ⟨rfl, below_three B2.out (by omega) _ _ _⟩
      · have h0' : (y.n == 0) = false := by simp [h0]
        have dx := (isN_iff.1 h).2.1
        have C := Lib.hid (fun W => specParts x y W dx ⟨by omega, by omega⟩)
        obtain ⟨p, s, e1, e2, ⟨p0, p1⟩, s0, s1, q1, r1, r2, ⟨f0, f1⟩, ⟨g0, g1⟩⟩ := flip_facts hB h0
        rw [e1, e2] at C
        have XT := Lib.hid (remS_t x y)
        have c0 : 1 ≤ x.d * y.d := by omega
        have c1 : x.d * y.d ≤ 999999998000000001 := by omega
        have t0 : -1999999996000000002 ≤ s * p.fdiv s := by omega
        have t1 : s * p.fdiv s ≤ 1999999996000000002 := by omega
        by_cases c : y.n < 0
        · have X := Lib.hid (r1 c)
          clear h k hB P h0 e1 e2 q1 r1 r2
          go_enter Tryz.func57, Tryz.ntmps57
          go_wp2_with fail
          refine (specNumYes x.n x.d x.t _ hx NX.out).mono ?_
          rintro e w1 ⟨rfl, hb⟩
          obtain ⟨hc, hf⟩ := bcell hb
          have W1 := Lib.hid hb
          have B1 := Lib.hid (below_then (below3 w _ _ _) hb)
          have G1 := Lib.hid (blk_below (g := w.heap.size + 2) hb (blk_new _ _ (by simp)))
          have hz : w.heap.size + 2 < w1.heap.size := by have := hb.size; simp at this; omega
          clear hb
          go_wp2_with fail
          refine (specNumYes y.n y.d y.t _ hy NY.out).mono ?_
          rintro e w2 ⟨rfl, hb⟩
          have W2 := Lib.hid (W1.out.trans (hb.mono W1.out.size))
          clear hc hf
          obtain ⟨hc2, hf2⟩ := bcell W2.out
          have B2 := Lib.hid (below_then B1.out hb)
          have G2 := Lib.hid (blk_below hb G1.out)
          have hz2 : w.heap.size + 2 < w2.heap.size := by have := hb.size; omega
          clear hb
          go_wp2_with fail
          refine (C.out _).mono ?_
          rintro e w3 ⟨rfl, hb⟩
          have W3 := Lib.hid (W2.out.trans (hb.mono W2.out.size))
          clear hc2 hf2
          obtain ⟨hc3, hf3⟩ := bcell W3.out
          have B3 := Lib.hid (below_then B2.out hb)
          have G3 := Lib.hid (blk_below hb G2.out)
          have hz3 : w.heap.size + 2 < w3.heap.size := by have := hb.size; omega
          clear hb
          go_wp2_with fail
          refine (specFl p s _ (by omega) (by omega) s0 (by omega)).mono ?_
          rintro e w' ⟨rfl, rfl⟩
          go_wp2_with fail
          refine (specMake (-(p - s * p.fdiv s)) (x.d * y.d) _ ⟨by omega, by omega⟩ ⟨by omega, by omega⟩).mono ?_
          rintro e w4 ⟨rfl, hb⟩
          have W4 := Lib.hid (W3.out.trans (hb.mono W3.out.size))
          clear hc3 hf3
          obtain ⟨hc4, hf4⟩ := bcell W4.out
          have B4 := Lib.hid (below_then B3.out hb)
          have G4 := Lib.hid (blk_below hb G3.out)
          clear hb
          rw [X.out]
          go_wp2
          rw [XT.out]
          exact item_ret rfl rfl rfl G4.out ⟨rfl, below_three B4.out (by omega) _ _ _⟩
        · have X := Lib.hid (r2 c)
          clear h k hB P h0 e1 e2 q1 r1 r2
          go_enter Tryz.func57, Tryz.ntmps57
          go_wp2_with fail
          refine (specNumYes x.n x.d x.t _ hx NX.out).mono ?_
          rintro e w1 ⟨rfl, hb⟩
          obtain ⟨hc, hf⟩ := bcell hb
          have W1 := Lib.hid hb
          have B1 := Lib.hid (below_then (below3 w _ _ _) hb)
          have G1 := Lib.hid (blk_below (g := w.heap.size + 2) hb (blk_new _ _ (by simp)))
          have hz : w.heap.size + 2 < w1.heap.size := by have := hb.size; simp at this; omega
          clear hb
          go_wp2_with fail
          refine (specNumYes y.n y.d y.t _ hy NY.out).mono ?_
          rintro e w2 ⟨rfl, hb⟩
          have W2 := Lib.hid (W1.out.trans (hb.mono W1.out.size))
          clear hc hf
          obtain ⟨hc2, hf2⟩ := bcell W2.out
          have B2 := Lib.hid (below_then B1.out hb)
          have G2 := Lib.hid (blk_below hb G1.out)
          have hz2 : w.heap.size + 2 < w2.heap.size := by have := hb.size; omega
          clear hb
          go_wp2_with fail
          refine (C.out _).mono ?_
          rintro e w3 ⟨rfl, hb⟩
          have W3 := Lib.hid (W2.out.trans (hb.mono W2.out.size))
          clear hc2 hf2
          obtain ⟨hc3, hf3⟩ := bcell W3.out
          have B3 := Lib.hid (below_then B2.out hb)
          have G3 := Lib.hid (blk_below hb G2.out)
          have hz3 : w.heap.size + 2 < w3.heap.size := by have := hb.size; omega
          clear hb
          go_wp2_with fail
          refine (specFl p s _ (by omega) (by omega) s0 (by omega)).mono ?_
          rintro e w' ⟨rfl, rfl⟩
          go_wp2_with fail
          refine (specMake (p - s * p.fdiv s) (x.d * y.d) _ ⟨by omega, by omega⟩ ⟨by omega, by omega⟩).mono ?_
          rintro e w4 ⟨rfl, hb⟩
          have W4 := Lib.hid (W3.out.trans (hb.mono W3.out.size))
          clear hc3 hf3
          obtain ⟨hc4, hf4⟩ := bcell W4.out
          have B4 := Lib.hid (below_then B3.out hb)
          have G4 := Lib.hid (blk_below hb G3.out)
          clear hb
          rw [X.out]
          go_wp2
          rw [XT.out]
          exact item_ret rfl rfl rfl G4.out ⟨rfl, below_three B4.out (by omega) _ _ _⟩
end Go.Proofs.YtjpdnabfpiengaaGreat

/- PowerOf, the program's. -/
namespace Go.Proofs.YtjpdnabfpiengaaGreat
set_option maxRecDepth 100000
open Go.RowKit
set_option linter.unusedVariables false

theorem pow_no {x y : It} (h : powOk x y = false) : powI x y = noI := by unfold powI; rw [h]; rfl
theorem powOk_b {x y : It} (h : both x y = false) : powOk x y = false := by unfold powOk; simp [h]
theorem powOk_d {x y : It} (h : y.d ≠ 1) : powOk x y = false := by unfold powOk; simp [h]
theorem powOk_n {x y : It} (h : y.n < -20 ∨ 20 < y.n) : powOk x y = false := by
  unfold powOk; apply decide_eq_false; omega
theorem powOk_yes {x y : It} (h : both x y = true) (hd : y.d = 1) (h1 : -20 ≤ y.n) (h2 : y.n ≤ 20) : powOk x y = true := by
  unfold powOk; exact decide_eq_true ⟨h, hd, h1, h2⟩
theorem pow_neg {x y : It} (h : powOk x y = true) (k : y.n < 0) : powI x y = divI oneI (powN x y.n.natAbs) := by unfold powI; rw [if_pos h, if_pos k]
theorem pow_pos {x y : It} (h : powOk x y = true) (k : ¬ y.n < 0) : powI x y = powN x y.n.natAbs := by unfold powI; rw [if_pos h, if_neg k]
theorem powN_small (x : It) (k : Nat) : (powN x k).t.size ≤ 9223372036854775807 := by rw [powN_t]; decide
theorem one_small : oneI.t.size ≤ 9223372036854775807 := by decide

/-- Where the five blocks of PowerOf's call stand behind k rounds. -/
def PowAt (w w1 : World) (x y : It) (k : Nat) (v : World) : Prop :=
  Below w.heap.size w v ∧ w1.heap.size + 1 < v.heap.size ∧
  v.heap[w.heap.size]? = some (.cells #[.int .i64 x.n, .int .i64 x.d, .string x.t] 62 (0, 0)) ∧ v.heap[w.heap.size + 1]? = some (.cells #[.int .i64 y.n, .int .i64 y.d, .string y.t] 62 (0, 0)) ∧ v.heap[w.heap.size + 2]? = some (.cells #[.int .i64 0, .int .i64 0, .string ⟨#[]⟩] 62 (0, 0)) ∧
  v.heap[w1.heap.size]? = some (.cells #[.int .i64 oneI.n, .int .i64 oneI.d, .string oneI.t] 62 (0, 0)) ∧ v.heap[w1.heap.size + 1]? = some (.cells #[.int .i64 (powN x k).n, .int .i64 (powN x k).d, .string (powN x k).t] 62 (0, 0))

set_option maxHeartbeats 4000000 in
theorem implPow (x y : It) (w : World) (hx : x.t.size ≤ 9223372036854775807) (hy : y.t.size ≤ 9223372036854775807) :
    Calls Tryz.prog 65 #[.agg #[.int .i64 x.n, .int .i64 x.d, .string x.t], .agg #[.int .i64 y.n, .int .i64 y.d, .string y.t]] w fun e w' => e = .returned (.agg #[.int .i64 (powI x y).n, .int .i64 (powI x y).d, .string (powI x y).t]) ∧ Below w.heap.size w w' := by
  cases h : both x y
  · have X := Lib.hid (pow_no (powOk_b h))
    have N := Lib.hid h
    clear h
    go_enter Tryz.func65, Tryz.ntmps65
    go_wp2_with fail
    refine (areNo x y _ hx hy N.out).mono ?_
    rintro e w1 ⟨rfl, hb⟩
    obtain ⟨hc, hf⟩ := bcell hb
    have B1 := Lib.hid (below_then (below3 w _ _ _) hb)
    have G := Lib.hid (blk_below (g := w.heap.size + 2) hb (blk_new _ _ (by simp)))
    clear hb
    go_wp2
    rw [X.out]
    exact item_ret rfl rfl rfl G.out ⟨rfl, below_three B1.out (by omega) _ _ _⟩
  · have start : ∀ (P : Prop), (y.d ≠ 1 ∨ y.n < -20 ∨ 20 < y.n → P) → (y.d = 1 ∧ -20 ≤ y.n ∧ y.n ≤ 20 → P) → P := by
      intro P a b
      by_cases c : y.d = 1 ∧ -20 ≤ y.n ∧ y.n ≤ 20
      · exact b c
      · exact a (by omega)
    have yn := isN_iff.1 (both_iff.1 h).2
    have y0 : -999999999 ≤ y.n := yn.2.2.2.1
    have y1 : y.n ≤ 999999999 := yn.2.2.2.2.1
    clear yn
    apply start
    · intro c
      have X := Lib.hid (show powI x y = noI from pow_no (c.elim powOk_d powOk_n))
      have N := Lib.hid h
      clear h start
      have c' : (¬ y.d = 1) ∨ ((1 ≤ y.d ∧ y.d ≤ 1) ∧ y.n < -20) ∨ ((1 ≤ y.d ∧ y.d ≤ 1) ∧ ¬ y.n < -20 ∧ 20 < y.n) := by omega
      clear c
      rcases c' with c | ⟨⟨c, c1⟩, d⟩ | ⟨⟨c, c1⟩, d, d'⟩
      all_goals
        go_enter Tryz.func65, Tryz.ntmps65
        go_wp2_with fail
        refine (areYes x y _ hx hy N.out).mono ?_
        rintro e w1 ⟨rfl, hb⟩
        obtain ⟨hc, hf⟩ := bcell hb
        have B1 := Lib.hid (below_then (below3 w _ _ _) hb)
        have G := Lib.hid (blk_below (g := w.heap.size + 2) hb (blk_new _ _ (by simp)))
        have hz : w.heap.size + 2 < w1.heap.size := by have := hb.size; simp at this; omega
        clear hb
        go_wp2
        rw [X.out]
        exact item_ret rfl rfl rfl G.out ⟨rfl, below_three B1.out (by omega) _ _ _⟩
    · rintro ⟨hd, n0, n1⟩
      have O := Lib.hid (powOk_yes h hd n0 n1)
      have N := Lib.hid h
      have c0 : 1 ≤ y.d := by omega
      have c1 : y.d ≤ 1 := by omega
      clear h start hd
      have PS := Lib.hid (powN_small x)
      obtain ⟨m, hm⟩ : ∃ m, y.n.natAbs = m := ⟨_, rfl⟩
      have HX := Lib.hid hx
      by_cases s : y.n < 0
      · have X := Lib.hid (show powI x y = divI oneI (powN x m) by rw [pow_neg O.out s, hm])
        have e0 : -y.n ≤ (m : Int) := by omega
        have e1 : (m : Int) ≤ -y.n := by omega
        have e2 : m ≤ 20 := by omega
        clear hm
        go_enter Tryz.func65, Tryz.ntmps65
        go_wp2_with fail
        refine (areYes x y _ hx hy N.out).mono ?_
        rintro e w1 ⟨rfl, hb⟩
        obtain ⟨hc, hf⟩ := bcell hb
        have B1 := Lib.hid (below_then (below3 w _ _ _) hb)
        have GX := Lib.hid (blk_below (g := w.heap.size) hb (blk_old (blk_old (blk_new _ _ rfl))))
        have GY := Lib.hid (blk_below (g := w.heap.size + 1) hb (blk_old (blk_new _ _ (by simp))))
        have GR := Lib.hid (blk_below (g := w.heap.size + 2) hb (blk_new _ _ (by simp)))
        have hz : w.heap.size + 2 < w1.heap.size := by have := hb.size; simp at this; omega
        clear hb
        obtain ⟨⟨cy0, cy1, cy2⟩, _, _, _⟩ := three GY.out
        have hz1 : w.heap.size + 1 < w1.heap.size := by omega
        have hz0 : w.heap.size < w1.heap.size := by omega
        clear hc hf
        go_wp2
        go_loopw [35] (fun i wr => ∃ k : Nat, k ≤ m ∧ i = .int .i64 k ∧ PowAt w w1 x y k wr) (fun i _ => m - (intOf i).toNat)
        case atStart => exact ⟨0, by omega, rfl, below_then B1.out (below2 w1 _ _), by simp, blk_old (blk_old GX.out), blk_old (blk_old GY.out), blk_old (blk_old GR.out), blk_old (blk_new _ _ rfl), blk_new _ _ (by simp)⟩
        case round =>
          rename_i wr
          obtain ⟨k, hk, rfl, P1, P2, P3, P4, P5, P6, P7⟩ := hrel
          have B2 := Lib.hid P1
          have KX := Lib.hid P3
          have KY := Lib.hid P4
          have KR := Lib.hid P5
          have KO := Lib.hid P6
          have KP := Lib.hid P7
          clear P1 P3 P4 P5 P6 P7 cy0 cy1 cy2
          have z0 : w.heap.size < wr.heap.size := by omega
          have z1 : w.heap.size + 1 < wr.heap.size := by omega
          have z2 : w.heap.size + 2 < wr.heap.size := by omega
          have z3 : w1.heap.size < wr.heap.size := by omega
          obtain ⟨⟨cx0, cx1, cx2⟩, _, _, _⟩ := three KX.out
          obtain ⟨⟨cy0, cy1, cy2⟩, _, _, _⟩ := three KY.out
          obtain ⟨⟨cp0, cp1, cp2⟩, _, _, _⟩ := three KP.out
          obtain ⟨⟨co0, co1, co2⟩, _, _, _⟩ := three KO.out
          by_cases hlt : k < m
          · go_wp2_with fail
            refine (implMul (powN x k) x _ (PS.out k) HX.out).mono ?_
            rintro e w2 ⟨rfl, hb⟩
            have MX := Lib.hid (blk_below hb KX.out)
            have MY := Lib.hid (blk_below hb KY.out)
            have MR := Lib.hid (blk_below hb KR.out)
            have MO := Lib.hid (blk_below hb KO.out)
            have MP := Lib.hid (blk_below hb KP.out)
            have B3 := Lib.hid (below_then B2.out hb)
            have hs := hb.size
            clear hb cx0 cx1 cx2 cy0 cy1 cy2 cp0 cp1 cp2 co0 co1 co2
            obtain ⟨⟨cp0, cp1, cp2⟩, fp0, fp1, fp2⟩ := three MP.out
            go_wp2
            go_roundw
            case rel => exact ⟨k + 1, by omega, by go_num, below_three B3.out (by omega) _ _ _, by simp; omega, blk_set3' MX.out (by omega), blk_set3' MY.out (by omega), blk_set3' MR.out (by omega), blk_set3' MO.out (by omega), cells_set3 MP.out⟩
            case measure => simp [intOf]; omega
          · have hkm : k = m := by omega
            subst hkm
            clear hlt hk
            go_wp2_with fail
            refine (implDiv oneI (powN x k) _ one_small (PS.out k)).mono ?_
            rintro e w2 ⟨rfl, hb⟩
            have MR := Lib.hid (blk_below hb KR.out)
            have B3 := Lib.hid (below_then B2.out hb)
            clear hb cx0 cx1 cx2 cy0 cy1 cy2 cp0 cp1 cp2 co0 co1 co2
            obtain ⟨⟨cp0, cp1, cp2⟩, fp0, fp1, fp2⟩ := three MR.out
            go_wp2
            rw [X.out]
            exact item_ret rfl rfl rfl MR.out ⟨rfl, below_three B3.out (by omega) _ _ _⟩
      · have X := Lib.hid (show powI x y = powN x m by rw [pow_pos O.out s, hm])
        have e0 : y.n ≤ (m : Int) := by omega
        have e1 : (m : Int) ≤ y.n := by omega
        have e2 : m ≤ 20 := by omega
        clear hm
        go_enter Tryz.func65, Tryz.ntmps65
        go_wp2_with fail
        refine (areYes x y _ hx hy N.out).mono ?_
        rintro e w1 ⟨rfl, hb⟩
        obtain ⟨hc, hf⟩ := bcell hb
        have B1 := Lib.hid (below_then (below3 w _ _ _) hb)
        have GX := Lib.hid (blk_below (g := w.heap.size) hb (blk_old (blk_old (blk_new _ _ rfl))))
        have GY := Lib.hid (blk_below (g := w.heap.size + 1) hb (blk_old (blk_new _ _ (by simp))))
        have GR := Lib.hid (blk_below (g := w.heap.size + 2) hb (blk_new _ _ (by simp)))
        have hz : w.heap.size + 2 < w1.heap.size := by have := hb.size; simp at this; omega
        clear hb
        obtain ⟨⟨cy0, cy1, cy2⟩, _, _, _⟩ := three GY.out
        have hz1 : w.heap.size + 1 < w1.heap.size := by omega
        have hz0 : w.heap.size < w1.heap.size := by omega
        clear hc hf
        go_wp2
        go_loopw [35] (fun i wr => ∃ k : Nat, k ≤ m ∧ i = .int .i64 k ∧ PowAt w w1 x y k wr) (fun i _ => m - (intOf i).toNat)
        case atStart => exact ⟨0, by omega, rfl, below_then B1.out (below2 w1 _ _), by simp, blk_old (blk_old GX.out), blk_old (blk_old GY.out), blk_old (blk_old GR.out), blk_old (blk_new _ _ rfl), blk_new _ _ (by simp)⟩
        case round =>
          rename_i wr
          obtain ⟨k, hk, rfl, P1, P2, P3, P4, P5, P6, P7⟩ := hrel
          have B2 := Lib.hid P1
          have KX := Lib.hid P3
          have KY := Lib.hid P4
          have KR := Lib.hid P5
          have KO := Lib.hid P6
          have KP := Lib.hid P7
          clear P1 P3 P4 P5 P6 P7 cy0 cy1 cy2
          have z0 : w.heap.size < wr.heap.size := by omega
          have z1 : w.heap.size + 1 < wr.heap.size := by omega
          have z2 : w.heap.size + 2 < wr.heap.size := by omega
          have z3 : w1.heap.size < wr.heap.size := by omega
          obtain ⟨⟨cx0, cx1, cx2⟩, _, _, _⟩ := three KX.out
          obtain ⟨⟨cy0, cy1, cy2⟩, _, _, _⟩ := three KY.out
          obtain ⟨⟨cp0, cp1, cp2⟩, _, _, _⟩ := three KP.out
          obtain ⟨⟨co0, co1, co2⟩, _, _, _⟩ := three KO.out
          by_cases hlt : k < m
          · go_wp2_with fail
            refine (implMul (powN x k) x _ (PS.out k) HX.out).mono ?_
            rintro e w2 ⟨rfl, hb⟩
            have MX := Lib.hid (blk_below hb KX.out)
            have MY := Lib.hid (blk_below hb KY.out)
            have MR := Lib.hid (blk_below hb KR.out)
            have MO := Lib.hid (blk_below hb KO.out)
            have MP := Lib.hid (blk_below hb KP.out)
            have B3 := Lib.hid (below_then B2.out hb)
            have hs := hb.size
            clear hb cx0 cx1 cx2 cy0 cy1 cy2 cp0 cp1 cp2 co0 co1 co2
            obtain ⟨⟨cp0, cp1, cp2⟩, fp0, fp1, fp2⟩ := three MP.out
            go_wp2
            go_roundw
            case rel => exact ⟨k + 1, by omega, by go_num, below_three B3.out (by omega) _ _ _, by simp; omega, blk_set3' MX.out (by omega), blk_set3' MY.out (by omega), blk_set3' MR.out (by omega), blk_set3' MO.out (by omega), cells_set3 MP.out⟩
            case measure => simp [intOf]; omega
          · have hkm : k = m := by omega
            subst hkm
            clear hlt hk
            obtain ⟨⟨cr0, cr1, cr2⟩, fr0, fr1, fr2⟩ := three KR.out
            go_wp2
            rw [X.out]
            exact item_ret rfl rfl rfl KR.out ⟨rfl, below_three B2.out (by omega) _ _ _⟩

end Go.Proofs.YtjpdnabfpiengaaGreat

/- ArithmeticOf as data. -/
namespace Go.Proofs.YtjpdnabfpiengaaGreat
open Go.RowKit
set_option maxRecDepth 100000
set_option linter.unusedVariables false

/-- The operators and what they do. -/
def opA : Nat → ByteArray
  | 0 => ⟨#[43]⟩
  | 1 => ⟨#[45]⟩
  | 2 => ⟨#[42]⟩
  | 3 => ⟨#[47]⟩
  | 4 => ⟨#[94]⟩
  | 5 => ⟨#[37, 37]⟩
  | _ => ⟨#[37, 47, 37]⟩
def fnA : Nat → It → It → It
  | 0 => addI
  | 1 => subI
  | 2 => mulI
  | 3 => divI
  | 4 => powI
  | 5 => remI
  | _ => quoI
noncomputable def idxA (op : ByteArray) : Option Nat := match bB (op = opA 0) with | true => some 0 | false => match bB (op = opA 1) with | true => some 1 | false => match bB (op = opA 2) with | true => some 2 | false => match bB (op = opA 3) with | true => some 3 | false => match bB (op = opA 4) with | true => some 4 | false => match bB (op = opA 5) with | true => some 5 | false => match bB (op = opA 6) with | true => some 6 | false => none
theorem idx_0 {op : ByteArray}  (h : op = opA 0) : idxA op = some 0 := by unfold idxA; rw [bB_yes h]
theorem idx_1 {op : ByteArray} (h0 : ¬ op = opA 0) (h : op = opA 1) : idxA op = some 1 := by unfold idxA; rw [bB_no h0, bB_yes h]
theorem idx_2 {op : ByteArray} (h0 : ¬ op = opA 0) (h1 : ¬ op = opA 1) (h : op = opA 2) : idxA op = some 2 := by unfold idxA; rw [bB_no h0, bB_no h1, bB_yes h]
theorem idx_3 {op : ByteArray} (h0 : ¬ op = opA 0) (h1 : ¬ op = opA 1) (h2 : ¬ op = opA 2) (h : op = opA 3) : idxA op = some 3 := by unfold idxA; rw [bB_no h0, bB_no h1, bB_no h2, bB_yes h]
theorem idx_4 {op : ByteArray} (h0 : ¬ op = opA 0) (h1 : ¬ op = opA 1) (h2 : ¬ op = opA 2) (h3 : ¬ op = opA 3) (h : op = opA 4) : idxA op = some 4 := by unfold idxA; rw [bB_no h0, bB_no h1, bB_no h2, bB_no h3, bB_yes h]
theorem idx_5 {op : ByteArray} (h0 : ¬ op = opA 0) (h1 : ¬ op = opA 1) (h2 : ¬ op = opA 2) (h3 : ¬ op = opA 3) (h4 : ¬ op = opA 4) (h : op = opA 5) : idxA op = some 5 := by unfold idxA; rw [bB_no h0, bB_no h1, bB_no h2, bB_no h3, bB_no h4, bB_yes h]
theorem idx_6 {op : ByteArray} (h0 : ¬ op = opA 0) (h1 : ¬ op = opA 1) (h2 : ¬ op = opA 2) (h3 : ¬ op = opA 3) (h4 : ¬ op = opA 4) (h5 : ¬ op = opA 5) (h : op = opA 6) : idxA op = some 6 := by unfold idxA; rw [bB_no h0, bB_no h1, bB_no h2, bB_no h3, bB_no h4, bB_no h5, bB_yes h]
theorem idx_no {op : ByteArray} (h0 : ¬ op = opA 0) (h1 : ¬ op = opA 1) (h2 : ¬ op = opA 2) (h3 : ¬ op = opA 3) (h4 : ¬ op = opA 4) (h5 : ¬ op = opA 5) (h6 : ¬ op = opA 6) : idxA op = none := by unfold idxA; rw [bB_no h0, bB_no h1, bB_no h2, bB_no h3, bB_no h4, bB_no h5, bB_no h6]
theorem good_oneI : GoodI oneI := ⟨⟨⟨by decide, by decide⟩, ⟨by decide, by decide⟩, Nat.zero_le _⟩, rfl⟩
theorem good_powN (x : It) (n : Nat) : GoodI (powN x n) := by
  cases n with
  | zero => exact good_oneI
  | succ n => exact good_mulI _ _
theorem good_powI (x y : It) : GoodI (powI x y) := by
  unfold powI
  split
  · split
    · exact good_divI _ _
    · exact good_powN _ _
  · exact good_noI
theorem good_quoI (x y : It) : GoodI (quoI x y) := by unfold quoI; split; exact good_ofQ _; exact good_noI
theorem good_remI (x y : It) : GoodI (remI x y) := by unfold remI; split; exact good_ofQ _; exact good_noI
theorem good_fnA (i : Nat) (x y : It) : GoodI (fnA i x y) := by
  unfold fnA
  split
  · exact good_addI _ _
  · exact good_subI _ _
  · exact good_mulI _ _
  · exact good_divI _ _
  · exact good_powI _ _
  · exact good_remI _ _
  · exact good_quoI _ _
noncomputable def ariS (oi : Option Nat) (a b : Vec) : ByteArray := match bB (ValidV a ∧ ValidV b) with
  | false => badB
  | true => match oi with
    | none => unkB
    | some _ => match bB (Counts a ∧ Counts b) with
      | false => nonNumB
      | true => match bB (0 ≤ lgcN a b) with | false => lenB | true => ⟨#[]⟩
noncomputable def ariV (oi : Option Nat) (a b : Vec) : Vec := match bB (ValidV a ∧ ValidV b) with
  | false => noV
  | true => match oi with
    | none => noV
    | some i => match bB (Counts a ∧ Counts b) with
      | false => noV
      | true => match bB (0 ≤ lgcN a b) with | false => noV | true => mkN 2 (itF (fun j => fnA i ((itemsV a).getD (j % itL a) noI) ((itemsV b).getD (j % itL b) noI)) (lgcN a b).toNat) (namesL (itL a) (itL b) (lgcN a b).toNat (namesV a) (namesV b))
theorem ari_bad {oi : Option Nat} {a b : Vec} (h : ¬ (ValidV a ∧ ValidV b)) : ariV oi a b = noV ∧ ariS oi a b = badB := by unfold ariV ariS; rw [bB_no h]; exact ⟨rfl, rfl⟩
theorem ari_unk {a b : Vec} (h : ValidV a ∧ ValidV b) : ariV none a b = noV ∧ ariS none a b = unkB := by unfold ariV ariS; rw [bB_yes h]; exact ⟨rfl, rfl⟩
theorem ari_non {i : Nat} {a b : Vec} (h : ValidV a ∧ ValidV b) (hc : ¬ (Counts a ∧ Counts b)) : ariV (some i) a b = noV ∧ ariS (some i) a b = nonNumB := by unfold ariV ariS; rw [bB_yes h, bB_no hc]; exact ⟨rfl, rfl⟩
theorem ari_len {i : Nat} {a b : Vec} (h : ValidV a ∧ ValidV b) (hc : Counts a ∧ Counts b) (hn : ¬ 0 ≤ lgcN a b) : ariV (some i) a b = noV ∧ ariS (some i) a b = lenB := by unfold ariV ariS; rw [bB_yes h, bB_yes hc, bB_no hn]; exact ⟨rfl, rfl⟩
theorem ari_yes {i : Nat} {a b : Vec} (h : ValidV a ∧ ValidV b) (hc : Counts a ∧ Counts b) (hn : 0 ≤ lgcN a b) : ariV (some i) a b = mkN 2 (itF (fun j => fnA i ((itemsV a).getD (j % itL a) noI) ((itemsV b).getD (j % itL b) noI)) (lgcN a b).toNat) (namesL (itL a) (itL b) (lgcN a b).toNat (namesV a) (namesV b)) ∧ ariS (some i) a b = ⟨#[]⟩ := by
  unfold ariV ariS; rw [bB_yes h, bB_yes hc, bB_yes hn]; exact ⟨rfl, rfl⟩
theorem ariS_prb (oi : Option Nat) (a b : Vec) : ariS oi a b = prbB oi.isSome a b nonNumB := by
  unfold ariS prbB matchL lgcN
  cases oi <;> cases bB (ValidV a ∧ ValidV b) <;> cases bB (Counts a ∧ Counts b) <;> cases bB (0 ≤ sizeL (itL a) (itL b)) <;> rfl
theorem ariV_no {oi : Option Nat} {a b : Vec} (h : prbB oi.isSome a b nonNumB ≠ ⟨#[]⟩) : ariV oi a b = noV := by
  rw [← ariS_prb] at h
  unfold ariS at h
  unfold ariV
  cases oi <;> cases e1 : bB (ValidV a ∧ ValidV b) <;> cases e3 : bB (Counts a ∧ Counts b) <;> cases e4 : bB (0 ≤ lgcN a b) <;> simp only [e1, e3, e4] at h ⊢
  exact absurd rfl h
theorem prb_ok {a b : Vec} {u : ByteArray} (hu : u ≠ ⟨#[]⟩) (h : prbB true a b u = ⟨#[]⟩) : (ValidV a ∧ ValidV b) ∧ (Counts a ∧ Counts b) ∧ 0 ≤ lgcN a b := by
  unfold prbB matchL at h
  by_cases h1 : ValidV a ∧ ValidV b
  · rw [bB_yes h1] at h
    by_cases h3 : Counts a ∧ Counts b
    · rw [bB_yes h3] at h
      by_cases h4 : 0 ≤ sizeL (itL a) (itL b)
      · exact ⟨h1, h3, h4⟩
      · rw [bB_no h4] at h; exact absurd (show lenB = ⟨#[]⟩ from h) (by decide)
    · rw [bB_no h3] at h; exact absurd h hu
  · rw [bB_no h1] at h; exact absurd (show badB = ⟨#[]⟩ from h) (by decide)
theorem names_small {d : Nat} {a : Vec} (h : Small d a) : (namesV a).length ≤ 1048576 ∧ ∀ s ∈ namesV a, s.size ≤ 1048576 := by
  cases d with
  | zero => exact h.elim
  | succ d => obtain ⟨k, items, parts, names, cls, levels, code, env⟩ := a; exact ⟨h.2.2.1, h.2.2.2.2.2.2.1⟩
theorem ari_plain (oi : Option Nat) {d1 d2 : Nat} {a b : Vec} (h1 : Small d1 a) (h2 : Small d2 b) : PlainN (ariV oi a b) := by
  by_cases h : ValidV a ∧ ValidV b
  · cases oi with
    | none => rw [(ari_unk h).1]; exact .inl rfl
    | some i =>
      by_cases hc : Counts a ∧ Counts b
      · by_cases hn : 0 ≤ lgcN a b
        · rw [(ari_yes h hc hn).1]
          have hl : (lgcN a b).toNat ≤ 40 := by
            have := sizeL_le (itL_le h.1 hc.1) (itL_le h.2 hc.2)
            unfold lgcN
            omega
          have hnm : (namesL (itL a) (itL b) (lgcN a b).toNat (namesV a) (namesV b)).length ≤ 1048576 ∧ ∀ s ∈ namesL (itL a) (itL b) (lgcN a b).toNat (namesV a) (namesV b), s.size ≤ 1048576 := by
            unfold namesL
            split
            · exact names_small h1
            · split
              · exact names_small h2
              · exact ⟨Nat.zero_le _, fun s hs => by cases hs⟩
          refine .inr ⟨_, _, _, rfl, by decide, by rw [itF_len]; exact hl, fun x hx => ?_, hnm.1, hnm.2⟩
          obtain ⟨j, _, rfl⟩ := mem_itF hx
          have := good_fnA i ((itemsV a).getD (j % itL a) noI) ((itemsV b).getD (j % itL b) noI)
          exact ⟨this.1, by rw [this.2]; exact Nat.zero_le _⟩
        · rw [(ari_len h hc hn).1]; exact .inl rfl
      · rw [(ari_non h hc).1]; exact .inl rfl
  · rw [(ari_bad h).1]; exact .inl rfl
end Go.Proofs.YtjpdnabfpiengaaGreat

/- A map literal of texts to functions: written and looked up. -/
namespace Go.Proofs.YtjpdnabfpiengaaGreat
open Go.RowKit
set_option maxRecDepth 100000
set_option linter.unusedVariables false
theorem run_ins {P : Program} {w : World} {mty kt et : TypeId} {r clock : Nat} {es : Array MapEntry} {s : ByteArray} {val : Value} (hm : P.underlying mty = some (.map kt et)) (hk : P.underlying kt = some .string) (hb : w.heap[r]? = some (.map es clock))
    (hf : Instr.findNow .string (.string s) es.toList 0 = some none) :
    (Instr.mapUpdate mty (.map (some r)) (.string s) val).run P w = .ok () { w with heap := w.heap.setIfInBounds r (.map (es.push { key := .string s, val := val, born := clock }) (clock + 1)) } := by
  have hc : (Instr.checkKey false 10000 kt (.string s)).run P w = .ok () w := MapKept.run_checkKey (k := .string s) hk (by simp [MapKept.IsKey]) false 9999
  simp [Instr.mapUpdate, run_underlying hm, MapKept.run_getObj_map hb, hc, MapKept.run_findKey hk hf, MapKept.run_setObj_map _ hb, Result.andThen]
theorem run_look_yes {P : Program} {w : World} {mty kt et : TypeId} {r clock i : Nat} {es : Array MapEntry} {s : ByteArray} {v : Value} (hm : P.underlying mty = some (.map kt et)) (hk : P.underlying kt = some .string) (hb : w.heap[r]? = some (.map es clock))
    (hf : Instr.findNow .string (.string s) es.toList 0 = some (some (i, v))) : (Instr.lookup mty (.map (some r)) (.string s) true).run P w = .ok (.tuple #[v, .bool true]) w := by
  have hc : (Instr.checkKey es.isEmpty 10000 kt (.string s)).run P w = .ok () w := MapKept.run_checkKey (k := .string s) hk (by simp [MapKept.IsKey]) _ 9999
  simp [Instr.lookup, run_underlying hm, MapKept.run_getObj_map hb, hc, MapKept.run_findKey hk hf, Result.andThen]
theorem run_look_no {P : Program} {w : World} {mty kt et : TypeId} {r clock : Nat} {es : Array MapEntry} {s : ByteArray} {z : Value} (hm : P.underlying mty = some (.map kt et)) (hk : P.underlying kt = some .string) (hb : w.heap[r]? = some (.map es clock))
    (hf : Instr.findNow .string (.string s) es.toList 0 = some none) (hz : (zeroValue et).run P w = .ok z w) : (Instr.lookup mty (.map (some r)) (.string s) true).run P w = .ok (.tuple #[z, .bool false]) w := by
  have hc : (Instr.checkKey es.isEmpty 10000 kt (.string s)).run P w = .ok () w := MapKept.run_checkKey (k := .string s) hk (by simp [MapKept.IsKey]) _ 9999
  simp [Instr.lookup, run_underlying hm, MapKept.run_getObj_map hb, hc, MapKept.run_findKey hk hf, hz, Result.andThen]
end Go.Proofs.YtjpdnabfpiengaaGreat

/- The program's table of logical operators. -/
namespace Go.Proofs.YtjpdnabfpiengaaGreat
open Go.RowKit
set_option maxRecDepth 100000
set_option linter.unusedVariables false
def putObj (w : World) (r : Nat) (o : Obj) : World := { w with heap := w.heap.setIfInBounds r o }
theorem putObj_at {w : World} {r : Nat} {o : Obj} (h : r < w.heap.size) : (putObj w r o).heap[r]? = some o := by simp [putObj, h]
theorem below_putObj {B : Nat} {a w : World} (h : Below B a w) {r : Nat} (hr : B ≤ r) (o : Obj) : Below B a (putObj w r o) :=
  h.trans ⟨rfl, rfl, rfl, by simp [Proofs.YtjpdnabfpiengaaGreat.putObj], fun k hk => by simp only [Proofs.YtjpdnabfpiengaaGreat.putObj]; rw [Array.getElem?_setIfInBounds_ne (by omega)]⟩
end Go.Proofs.YtjpdnabfpiengaaGreat

/- The program's table of arithmetic operators. -/
namespace Go.Proofs.YtjpdnabfpiengaaGreat
open Go.RowKit
set_option maxRecDepth 100000
set_option linter.unusedVariables false

def ariTab : Array MapEntry := #[{ key := .string ⟨#[43]⟩, val := .func (.func 61) #[] #[], born := 0 }, { key := .string ⟨#[45]⟩, val := .func (.func 62) #[] #[], born := 1 }, { key := .string ⟨#[42]⟩, val := .func (.func 63) #[] #[], born := 2 }, { key := .string ⟨#[47]⟩, val := .func (.func 64) #[] #[], born := 3 }, { key := .string ⟨#[94]⟩, val := .func (.func 65) #[] #[], born := 4 }, { key := .string ⟨#[37, 37]⟩, val := .func (.func 66) #[] #[], born := 5 }, { key := .string ⟨#[37, 47, 37]⟩, val := .func (.func 67) #[] #[], born := 6 }]
set_option maxHeartbeats 1000000 in
theorem implAriOps (w : World) : Calls Tryz.prog 40 #[] w fun e w' => e = .returned (.map (some w.heap.size)) ∧ w'.heap[w.heap.size]? = some (.map ariTab 7) ∧ Below w.heap.size w w' := by
  have hmm := @run_makeMap Tryz.prog
  have hb0 : (w.alloc (.map #[] 0)).heap[w.heap.size]? = some (.map #[] 0) := blk_new w _ rfl
  have hs : w.heap.size < (w.alloc (.map #[] 0)).heap.size := by simp
  obtain ⟨W0, hW0⟩ : ∃ W, w.alloc (.map #[] 0) = W := ⟨_, rfl⟩
  have B0 : Below w.heap.size w W0 := hW0 ▸ below1 w _
  rw [hW0] at hb0 hs
  have EW := Lib.hid hW0
  obtain ⟨W1, hW1⟩ : ∃ W, putObj W0 w.heap.size (.map ((#[] : Array MapEntry).push { key := .string ⟨#[43]⟩, val := .func (.func 61) #[] #[], born := 0 }) (0 + 1)) = W := ⟨_, rfl⟩
  have i1 : (Instr.mapUpdate 68 (.map (some w.heap.size)) (.string ⟨#[43]⟩) (.func (.func 61) #[] #[])).run Tryz.prog W0 = .ok () W1 := hW1 ▸ run_ins (P := Tryz.prog) (w := W0) (val := .func (.func 61) #[] #[]) (s := ⟨#[43]⟩) Tryz.underlying68 Tryz.underlying9 hb0 (by rfl)
  have hb1 : W1.heap[w.heap.size]? = some (.map #[{ key := .string ⟨#[43]⟩, val := .func (.func 61) #[] #[], born := 0 }] 1) := hW1 ▸ putObj_at (Array.getElem?_eq_some_iff.1 hb0).1
  have B1 : Below w.heap.size w W1 := hW1 ▸ below_putObj B0 (Nat.le_refl _) _
  clear hW1 hb0 B0
  obtain ⟨W2, hW2⟩ : ∃ W, putObj W1 w.heap.size (.map ((#[{ key := .string ⟨#[43]⟩, val := .func (.func 61) #[] #[], born := 0 }] : Array MapEntry).push { key := .string ⟨#[45]⟩, val := .func (.func 62) #[] #[], born := 1 }) (1 + 1)) = W := ⟨_, rfl⟩
  have i2 : (Instr.mapUpdate 68 (.map (some w.heap.size)) (.string ⟨#[45]⟩) (.func (.func 62) #[] #[])).run Tryz.prog W1 = .ok () W2 := hW2 ▸ run_ins (P := Tryz.prog) (w := W1) (val := .func (.func 62) #[] #[]) (s := ⟨#[45]⟩) Tryz.underlying68 Tryz.underlying9 hb1 (by rfl)
  have hb2 : W2.heap[w.heap.size]? = some (.map #[{ key := .string ⟨#[43]⟩, val := .func (.func 61) #[] #[], born := 0 }, { key := .string ⟨#[45]⟩, val := .func (.func 62) #[] #[], born := 1 }] 2) := hW2 ▸ putObj_at (Array.getElem?_eq_some_iff.1 hb1).1
  have B2 : Below w.heap.size w W2 := hW2 ▸ below_putObj B1 (Nat.le_refl _) _
  clear hW2 hb1 B1
  obtain ⟨W3, hW3⟩ : ∃ W, putObj W2 w.heap.size (.map ((#[{ key := .string ⟨#[43]⟩, val := .func (.func 61) #[] #[], born := 0 }, { key := .string ⟨#[45]⟩, val := .func (.func 62) #[] #[], born := 1 }] : Array MapEntry).push { key := .string ⟨#[42]⟩, val := .func (.func 63) #[] #[], born := 2 }) (2 + 1)) = W := ⟨_, rfl⟩
  have i3 : (Instr.mapUpdate 68 (.map (some w.heap.size)) (.string ⟨#[42]⟩) (.func (.func 63) #[] #[])).run Tryz.prog W2 = .ok () W3 := hW3 ▸ run_ins (P := Tryz.prog) (w := W2) (val := .func (.func 63) #[] #[]) (s := ⟨#[42]⟩) Tryz.underlying68 Tryz.underlying9 hb2 (by rfl)
  have hb3 : W3.heap[w.heap.size]? = some (.map #[{ key := .string ⟨#[43]⟩, val := .func (.func 61) #[] #[], born := 0 }, { key := .string ⟨#[45]⟩, val := .func (.func 62) #[] #[], born := 1 }, { key := .string ⟨#[42]⟩, val := .func (.func 63) #[] #[], born := 2 }] 3) := hW3 ▸ putObj_at (Array.getElem?_eq_some_iff.1 hb2).1
  have B3 : Below w.heap.size w W3 := hW3 ▸ below_putObj B2 (Nat.le_refl _) _
  clear hW3 hb2 B2
  obtain ⟨W4, hW4⟩ : ∃ W, putObj W3 w.heap.size (.map ((#[{ key := .string ⟨#[43]⟩, val := .func (.func 61) #[] #[], born := 0 }, { key := .string ⟨#[45]⟩, val := .func (.func 62) #[] #[], born := 1 }, { key := .string ⟨#[42]⟩, val := .func (.func 63) #[] #[], born := 2 }] : Array MapEntry).push { key := .string ⟨#[47]⟩, val := .func (.func 64) #[] #[], born := 3 }) (3 + 1)) = W := ⟨_, rfl⟩
  have i4 : (Instr.mapUpdate 68 (.map (some w.heap.size)) (.string ⟨#[47]⟩) (.func (.func 64) #[] #[])).run Tryz.prog W3 = .ok () W4 := hW4 ▸ run_ins (P := Tryz.prog) (w := W3) (val := .func (.func 64) #[] #[]) (s := ⟨#[47]⟩) Tryz.underlying68 Tryz.underlying9 hb3 (by rfl)
  have hb4 : W4.heap[w.heap.size]? = some (.map #[{ key := .string ⟨#[43]⟩, val := .func (.func 61) #[] #[], born := 0 }, { key := .string ⟨#[45]⟩, val := .func (.func 62) #[] #[], born := 1 }, { key := .string ⟨#[42]⟩, val := .func (.func 63) #[] #[], born := 2 }, { key := .string ⟨#[47]⟩, val := .func (.func 64) #[] #[], born := 3 }] 4) := hW4 ▸ putObj_at (Array.getElem?_eq_some_iff.1 hb3).1
  have B4 : Below w.heap.size w W4 := hW4 ▸ below_putObj B3 (Nat.le_refl _) _
  clear hW4 hb3 B3
  obtain ⟨W5, hW5⟩ : ∃ W, putObj W4 w.heap.size (.map ((#[{ key := .string ⟨#[43]⟩, val := .func (.func 61) #[] #[], born := 0 }, { key := .string ⟨#[45]⟩, val := .func (.func 62) #[] #[], born := 1 }, { key := .string ⟨#[42]⟩, val := .func (.func 63) #[] #[], born := 2 }, { key := .string ⟨#[47]⟩, val := .func (.func 64) #[] #[], born := 3 }] : Array MapEntry).push { key := .string ⟨#[94]⟩, val := .func (.func 65) #[] #[], born := 4 }) (4 + 1)) = W := ⟨_, rfl⟩
  have i5 : (Instr.mapUpdate 68 (.map (some w.heap.size)) (.string ⟨#[94]⟩) (.func (.func 65) #[] #[])).run Tryz.prog W4 = .ok () W5 := hW5 ▸ run_ins (P := Tryz.prog) (w := W4) (val := .func (.func 65) #[] #[]) (s := ⟨#[94]⟩) Tryz.underlying68 Tryz.underlying9 hb4 (by rfl)
  have hb5 : W5.heap[w.heap.size]? = some (.map #[{ key := .string ⟨#[43]⟩, val := .func (.func 61) #[] #[], born := 0 }, { key := .string ⟨#[45]⟩, val := .func (.func 62) #[] #[], born := 1 }, { key := .string ⟨#[42]⟩, val := .func (.func 63) #[] #[], born := 2 }, { key := .string ⟨#[47]⟩, val := .func (.func 64) #[] #[], born := 3 }, { key := .string ⟨#[94]⟩, val := .func (.func 65) #[] #[], born := 4 }] 5) := hW5 ▸ putObj_at (Array.getElem?_eq_some_iff.1 hb4).1
  have B5 : Below w.heap.size w W5 := hW5 ▸ below_putObj B4 (Nat.le_refl _) _
  clear hW5 hb4 B4
  obtain ⟨W6, hW6⟩ : ∃ W, putObj W5 w.heap.size (.map ((#[{ key := .string ⟨#[43]⟩, val := .func (.func 61) #[] #[], born := 0 }, { key := .string ⟨#[45]⟩, val := .func (.func 62) #[] #[], born := 1 }, { key := .string ⟨#[42]⟩, val := .func (.func 63) #[] #[], born := 2 }, { key := .string ⟨#[47]⟩, val := .func (.func 64) #[] #[], born := 3 }, { key := .string ⟨#[94]⟩, val := .func (.func 65) #[] #[], born := 4 }] : Array MapEntry).push { key := .string ⟨#[37, 37]⟩, val := .func (.func 66) #[] #[], born := 5 }) (5 + 1)) = W := ⟨_, rfl⟩
  have i6 : (Instr.mapUpdate 68 (.map (some w.heap.size)) (.string ⟨#[37, 37]⟩) (.func (.func 66) #[] #[])).run Tryz.prog W5 = .ok () W6 := hW6 ▸ run_ins (P := Tryz.prog) (w := W5) (val := .func (.func 66) #[] #[]) (s := ⟨#[37, 37]⟩) Tryz.underlying68 Tryz.underlying9 hb5 (by rfl)
  have hb6 : W6.heap[w.heap.size]? = some (.map #[{ key := .string ⟨#[43]⟩, val := .func (.func 61) #[] #[], born := 0 }, { key := .string ⟨#[45]⟩, val := .func (.func 62) #[] #[], born := 1 }, { key := .string ⟨#[42]⟩, val := .func (.func 63) #[] #[], born := 2 }, { key := .string ⟨#[47]⟩, val := .func (.func 64) #[] #[], born := 3 }, { key := .string ⟨#[94]⟩, val := .func (.func 65) #[] #[], born := 4 }, { key := .string ⟨#[37, 37]⟩, val := .func (.func 66) #[] #[], born := 5 }] 6) := hW6 ▸ putObj_at (Array.getElem?_eq_some_iff.1 hb5).1
  have B6 : Below w.heap.size w W6 := hW6 ▸ below_putObj B5 (Nat.le_refl _) _
  clear hW6 hb5 B5
  obtain ⟨W7, hW7⟩ : ∃ W, putObj W6 w.heap.size (.map ((#[{ key := .string ⟨#[43]⟩, val := .func (.func 61) #[] #[], born := 0 }, { key := .string ⟨#[45]⟩, val := .func (.func 62) #[] #[], born := 1 }, { key := .string ⟨#[42]⟩, val := .func (.func 63) #[] #[], born := 2 }, { key := .string ⟨#[47]⟩, val := .func (.func 64) #[] #[], born := 3 }, { key := .string ⟨#[94]⟩, val := .func (.func 65) #[] #[], born := 4 }, { key := .string ⟨#[37, 37]⟩, val := .func (.func 66) #[] #[], born := 5 }] : Array MapEntry).push { key := .string ⟨#[37, 47, 37]⟩, val := .func (.func 67) #[] #[], born := 6 }) (6 + 1)) = W := ⟨_, rfl⟩
  have i7 : (Instr.mapUpdate 68 (.map (some w.heap.size)) (.string ⟨#[37, 47, 37]⟩) (.func (.func 67) #[] #[])).run Tryz.prog W6 = .ok () W7 := hW7 ▸ run_ins (P := Tryz.prog) (w := W6) (val := .func (.func 67) #[] #[]) (s := ⟨#[37, 47, 37]⟩) Tryz.underlying68 Tryz.underlying9 hb6 (by rfl)
  have hb7 : W7.heap[w.heap.size]? = some (.map #[{ key := .string ⟨#[43]⟩, val := .func (.func 61) #[] #[], born := 0 }, { key := .string ⟨#[45]⟩, val := .func (.func 62) #[] #[], born := 1 }, { key := .string ⟨#[42]⟩, val := .func (.func 63) #[] #[], born := 2 }, { key := .string ⟨#[47]⟩, val := .func (.func 64) #[] #[], born := 3 }, { key := .string ⟨#[94]⟩, val := .func (.func 65) #[] #[], born := 4 }, { key := .string ⟨#[37, 37]⟩, val := .func (.func 66) #[] #[], born := 5 }, { key := .string ⟨#[37, 47, 37]⟩, val := .func (.func 67) #[] #[], born := 6 }] 7) := hW7 ▸ putObj_at (Array.getElem?_eq_some_iff.1 hb6).1
  have B7 : Below w.heap.size w W7 := hW7 ▸ below_putObj B6 (Nat.le_refl _) _
  clear hW7 hb6 B6
  have K7 := Lib.hid (show W7.heap[w.heap.size]? = some (.map ariTab 7) from hb7)
  have BB := Lib.hid B7
  clear hb7 B7
  have j1 : (Instr.mapUpdate 68 (.map (some w.heap.size)) (.string ⟨#[43]⟩) (.func (.func 61) #[] #[])).run Tryz.prog (w.alloc (.map #[] 0)) = .ok () W1 := by rw [EW.out]; exact i1
  clear i1 hW0 hs
  go_enter Tryz.func40, Tryz.ntmps40
  go_wp2
  go_ret
  exact ⟨rfl, K7.out, BB.out⟩
theorem lookA_0 {w : World} {g : Nat} (h : w.heap[g]? = some (.map ariTab 7)) : (Instr.lookup 68 (.map (some g)) (.string ⟨#[43]⟩) true).run Tryz.prog w = .ok (.tuple #[.func (.func 61) #[] #[], .bool true]) w :=
  run_look_yes (i := 0) Tryz.underlying68 Tryz.underlying9 h (by rfl)
theorem lookA_1 {w : World} {g : Nat} (h : w.heap[g]? = some (.map ariTab 7)) : (Instr.lookup 68 (.map (some g)) (.string ⟨#[45]⟩) true).run Tryz.prog w = .ok (.tuple #[.func (.func 62) #[] #[], .bool true]) w :=
  run_look_yes (i := 1) Tryz.underlying68 Tryz.underlying9 h (by rfl)
theorem lookA_2 {w : World} {g : Nat} (h : w.heap[g]? = some (.map ariTab 7)) : (Instr.lookup 68 (.map (some g)) (.string ⟨#[42]⟩) true).run Tryz.prog w = .ok (.tuple #[.func (.func 63) #[] #[], .bool true]) w :=
  run_look_yes (i := 2) Tryz.underlying68 Tryz.underlying9 h (by rfl)
theorem lookA_3 {w : World} {g : Nat} (h : w.heap[g]? = some (.map ariTab 7)) : (Instr.lookup 68 (.map (some g)) (.string ⟨#[47]⟩) true).run Tryz.prog w = .ok (.tuple #[.func (.func 64) #[] #[], .bool true]) w :=
  run_look_yes (i := 3) Tryz.underlying68 Tryz.underlying9 h (by rfl)
theorem lookA_4 {w : World} {g : Nat} (h : w.heap[g]? = some (.map ariTab 7)) : (Instr.lookup 68 (.map (some g)) (.string ⟨#[94]⟩) true).run Tryz.prog w = .ok (.tuple #[.func (.func 65) #[] #[], .bool true]) w :=
  run_look_yes (i := 4) Tryz.underlying68 Tryz.underlying9 h (by rfl)
theorem lookA_5 {w : World} {g : Nat} (h : w.heap[g]? = some (.map ariTab 7)) : (Instr.lookup 68 (.map (some g)) (.string ⟨#[37, 37]⟩) true).run Tryz.prog w = .ok (.tuple #[.func (.func 66) #[] #[], .bool true]) w :=
  run_look_yes (i := 5) Tryz.underlying68 Tryz.underlying9 h (by rfl)
theorem lookA_6 {w : World} {g : Nat} (h : w.heap[g]? = some (.map ariTab 7)) : (Instr.lookup 68 (.map (some g)) (.string ⟨#[37, 47, 37]⟩) true).run Tryz.prog w = .ok (.tuple #[.func (.func 67) #[] #[], .bool true]) w :=
  run_look_yes (i := 6) Tryz.underlying68 Tryz.underlying9 h (by rfl)
end Go.Proofs.YtjpdnabfpiengaaGreat

/- A struct literal of a vector with items and names. -/
namespace Go.Proofs.YtjpdnabfpiengaaGreat
open Go.RowKit
set_option maxRecDepth 100000
theorem build_v3 {w : World} {k : Int} {a c : Option Addr} {n m n' m' : Nat} : (Instr.build 31 #[(0, .int .i64 k), (1, .slice a n m), (3, .slice c n' m')]).run Tryz.prog w = .ok (.agg #[.int .i64 k, .slice a n m, .slice none 0 0, .slice c n' m', .slice none 0 0, .slice none 0 0, .int .i64 0, .int .i64 0]) w := by
  kernel_rfl
end Go.Proofs.YtjpdnabfpiengaaGreat

/- LogicOf of the program. -/
namespace Go.Proofs.YtjpdnabfpiengaaGreat
open Go.RowKit
set_option maxRecDepth 100000
set_option linter.unusedVariables false

theorem own_pair {w : World} {k : Int} {l : List It} {names : List ByteArray} {a : Option Addr} {c : Nat} {na : Option Addr} {nc : Nat} {Fi Fn : List Nat} {lo mid hi : Nat} (hi1 : OwnIts w a l Fi) (n1 : Fi.Nodup) (r1 : ∀ b ∈ Fi, lo ≤ b ∧ b < mid) (c1 : l.length ≤ c)
    (hT : OwnTxs w na names Fn) (n2 : Fn.Nodup) (r2 : ∀ b ∈ Fn, mid ≤ b ∧ b < hi) (c2 : names.length ≤ nc) (h1 : lo ≤ mid) (h2 : mid ≤ hi) : Own 1 (mkN k l names) (.agg #[.int .i64 k, .slice a l.length c, .slice none 0 0, .slice na names.length nc, .slice none 0 0, .slice none 0 0, .int .i64 0, .int .i64 0]) lo hi w := by
  refine ⟨Fi ++ Fn, ?_, ?_, ?_⟩
  · show OwnVec w 1 (.mk k l [] names [] [] 0 0) _ _
    unfold OwnVec
    exact ⟨a, c, none, 0, na, nc, none, 0, none, 0, Fi, [], Fn, [], [], rfl, by simp, ⟨c1, Nat.le_refl _, c2, Nat.le_refl _, Nat.le_refl _⟩, hi1, hT, .inl ⟨rfl, rfl⟩, .inl ⟨rfl, rfl⟩, .inl ⟨rfl, rfl⟩⟩
  · rw [List.nodup_append]
    exact ⟨n1, n2, fun x hx y hy e => by have := r1 x hx; have := r2 y hy; omega⟩
  · intro b hb
    rcases List.mem_append.1 hb with h | h
    · have := r1 b h; omega
    · have := r2 b h; omega
section
variable {ops : Array Oper} {Q : Exit → Act → World → Prop} {S : World → Prop}
variable {r : List (Nat × Bool)} {a : Act} {e : List (Nat × Value)} {w : World} {i d : Nat} {g : Option (Nat × Bool)}
theorem run_bld {x y : Operand} {sa sb : Option Addr} {n m n' m' : Nat} (ho : opAt ops i = some (some d, .build 31 #[(0, .const (.int .i64 1)), (1, x), (3, y)], g)) (hd : Nat.blt d a.tmps.size = true) (hw : wantE ops a e g = some true)
    (hx : lookO a e x = .slice sa n m) (hy : lookO a e y = .slice sb n' m') (hS : S w)
    (h : RunE Tryz.prog ops Q S r a ((d, .agg #[.int .i64 1, .slice sa n m, .slice none 0 0, .slice sb n' m', .slice none 0 0, .slice none 0 0, .int .i64 0, .int .i64 0]) :: e) w) : RunE Tryz.prog ops Q S ((i, false) :: r) a e w := by
  have hc : lookO a e (.const (.int .i64 1)) = .int .i64 1 := rfl
  refine run_eff ho hd hw (fun o h1 => ?_) hS h
  unfold execOp
  simp only [h1, List.map_toArray, List.map_cons, List.map_nil, hx, hy, hc]
  exact run_v build_v3
end
theorem store_vecN {w : World} {b : Nat} {z0 z1 z2 z3 z4 z5 z6 z7 c0 c1 c2 c3 c4 c5 c6 c7 : Value} (h : w.heap[b]? = some (.cells #[z0, z1, z2, z3, z4, z5, z6, z7] 31 (0, 0))) (h1 : (#[c0, c1, c2, c3, c4, c5, c6, c7] : Array Value).all (·.oneCell') = true) :
    (Instr.storeAt 31 (.pointer (some ⟨b, 0, none⟩)) (.agg #[c0, c1, c2, c3, c4, c5, c6, c7])).run Tryz.prog w = .ok () (w.setRow b #[c0, c1, c2, c3, c4, c5, c6, c7]) := by
  have e := run_storeVar_row (P := Tryz.prog) w b _ 31 #[z0, z1, z2, z3, z4, z5, z6, z7] #[c0, c1, c2, c3, c4, c5, c6, c7] h infoVec rfl h1
  simp only [Instr.storeAt, Instr.sureAddr, Sem.run_bind, Sem.run_pure, Result.andThen_ok, e]
theorem bytes_ne {x y : ByteArray} (h : ¬ x = y) : (x == y) = false := by
  obtain ⟨a⟩ := x
  obtain ⟨b⟩ := y
  show (a == b) = false
  rw [beq_eq_false_iff_ne]
  intro e
  exact h (by rw [e])
end Go.Proofs.YtjpdnabfpiengaaGreat

/- The problem of one operand, in the program; an item that is appended. -/
namespace Go.Proofs.YtjpdnabfpiengaaGreat
open Go.RowKit
set_option maxRecDepth 100000
set_option linter.unusedVariables false

/-- An item that is appended to a local slice, where the region does not draw its order. -/
theorem wpList_appIt {w0 w : World} {ops : Array Oper} {rest : List Oper} {o : Oper} {a : Act} {Q : Exit → Act → World → Prop} (hgd : o.guard = none) (s x : Operand)
    (ho : o.op = .call { callee := .builtin .append, args := #[s, x], argTypes := #[28, 28] }) (z : It) (l : List It) (v0 : Value) (b : Nat) (hs : a.eval s = v0) (hx : a.eval x = .slice (some ⟨b, 0, none⟩) 1 1)
    (hr : ItR w0 w l v0) (hb : w.heap[b]? = some (.cells #[.int .i64 z.n, .int .i64 z.d, .string z.t] 62 (0, 0))) (hn : l.length ≤ 1048576)
    (h : ∀ v' w', ItR w0 w' (l ++ [z]) v' → wpList Tryz.prog ops Q rest (a.put o.dst v') w') : wpList Tryz.prog ops Q (o :: rest) a w := by
  obtain ⟨i0, hi0, hz0, hz1, hz2⟩ := info_parts infoItm3
  refine wpList_append_own w hgd s x 28 ho w0.heap.size 62 i0 _ 3 32 Tryz.underlying28 hi0 hz0 hz1 hz2 rfl (by decide) v0 l.length (itCells l) hs hr.row ⟨b, 0, none⟩ 1 1 (itCells [z]) hx rfl (fun j u hj => ?_) (itCells_one _) (by unfold maxLen; omega) (by omega) hr.below.size (fun v' w' h1 h2 _ => ?_)
  · have hlt : j < 3 := by have := (List.getElem?_eq_some_iff.1 hj).1; simpa [itCells] using this
    rw [addr_add, Nat.zero_add]
    refine cellOf hb ?_
    rw [← hj]
    rcases (show j = 0 ∨ j = 1 ∨ j = 2 by omega) with rfl | rfl | rfl <;> rfl
  · have e1 : l.length + 1 = (l ++ [z]).length := by simp
    have e2 : itCells l ++ itCells [z] = itCells (l ++ [z]) := (itCells_app l [z]).symm
    rw [e1, e2] at h1
    exact h v' w' ⟨h1, hr.below.grown h2 hr.below.size (fun r hr' => (hr.row.lt r hr').1)⟩
end Go.Proofs.YtjpdnabfpiengaaGreat

/- Chapter 6 in the program: what a summary is made of, folds. -/
namespace Go.Proofs.YtjpdnabfpiengaaGreat
open Go.RowKit
set_option maxRecDepth 100000
set_option linter.unusedVariables false

theorem keep_no {x : It} (h : NumIt x) (hd : x.d = 0) : keepI true x = false := by unfold keepI; simp [hd]
theorem keep_yes {x : It} (hd : ¬ x.d = 0) : keepI true x = true := by unfold keepI; simp [hd]
/-- The elements of which a summary is made, as summarizedItems answers them. -/
def TakenI (drop : Bool) (u : ByteArray) (v : Vec) (w : World) (e : Ending) (w' : World) : Prop :=
  ∃ (sa : Option Addr) (n c : Nat), e = .returned (.tuple #[.slice sa n c, .string (smyS u v)]) ∧ n = (smyL drop v).length ∧ ItemsAt 0 w'.heap.size w' sa (smyL drop v) ∧ Below w.heap.size w w'
theorem items_nil (lo hi : Nat) (w : World) (a : Option Addr) : ItemsAt lo hi w a [] := fun i x h => by cases h
theorem ItR.items {w wr : World} {l : List It} {v : Value} (h : ItR w wr l v) : ∃ sa c, v = .slice sa l.length c ∧ ItemsAt w.heap.size wr.heap.size wr sa l := by
  obtain ⟨a, c, Fi, rfl, ho, hn, hr, hc⟩ := own_of_its h.row
  exact ⟨a, c, rfl, ho.at_ (fun b hb => hr b hb)⟩
end Go.Proofs.YtjpdnabfpiengaaGreat

/- An answer of one number, in the reference. -/
namespace Go.Proofs.YtjpdnabfpiengaaGreat
open Go.RowKit
set_option maxRecDepth 100000
set_option linter.unusedVariables false

end Go.Proofs.YtjpdnabfpiengaaGreat

/- A region that draws its order where two operations that change the world may come up at once: the orders as a tree. -/
namespace Go.Proofs.YtjpdnabfpiengaaGreat
set_option maxRecDepth 100000
open Go.RowKit
set_option linter.unusedVariables false

/-- An order, or an order behind which either of two operations comes up. -/
inductive Plan where
  | leaf (r : List (Nat × Bool))
  | fork (r : List (Nat × Bool)) (i : Nat) (p : Plan) (j : Nat) (q : Plan)
def Plan.cons (i : Nat) : Plan → Plan
  | .leaf r => .leaf ((i, false) :: r)
  | .fork r j p k q => .fork ((i, false) :: r) j p k q
def Plan.len : Plan → Nat
  | .leaf r => r.length
  | .fork r _ p _ _ => r.length + (p.len + 1)
section
variable {P : Program} {ops : Array Oper} {Q : Exit → Act → World → Prop} {S : World → Prop}
theorem wp_weak {Q' : Exit → Act → World → Prop} {o : Oper} {a : Act} {w : World} {K : Act → World → Prop} (hP : ∀ c a w, Q' (.panic c) a w → Q (.panic c) a w) (hL : LetsOut Q' → LetsOut Q) (hh : o.wp P a w K Q') : o.wp P a w K Q := by
  unfold Oper.wp at *
  generalize (execOp a.eval o).run P w = r at *
  cases r with
  | ok n w' =>
    cases n <;> simp only [Oper.upon] at hh ⊢ <;>
      first
        | exact hh
        | exact Calls.mono hh (fun e w'' he => by cases e <;> first | exact he | exact hP _ _ _ he | exact hL he)
  | halt x w' => cases x <;> simp only [Oper.upon] at hh ⊢ <;> first | exact hP _ _ _ hh | exact hh
theorem wpOp_weak {Q' : Exit → Act → World → Prop} {i : Nat} {a : Act} {w : World} {K : Act → World → Prop} (hP : ∀ c a w, Q' (.panic c) a w → Q (.panic c) a w) (hL : LetsOut Q' → LetsOut Q) (hh : wpOp P ops Q' i K a w) : wpOp P ops Q i K a w := by
  unfold wpOp at *
  split
  · simpa [*] using hh
  · rename_i o ho
    simp only [ho] at hh
    split
    · rename_i hw; simp only [hw, if_true] at hh; exact hh.imp (wp_weak hP hL) (fun h => ⟨h.1, hL h.2⟩)
    · rename_i hw; simp only [hw] at hh; exact hh
/-- What a fork asks at its end, and Q for all other exits. -/
def forkQ (Q : Exit → Act → World → Prop) (F : Act → World → Prop) : Exit → Act → World → Prop := fun x a w => match x with | .normal => F a w | y => Q y a w
def preOK (ops : Array Oper) : List (Nat × Bool) → Array Bool → Bool
  | [], _ => true
  | (i, true) :: r, listed => Region.free .any ops listed i && (Region.ready .any ops listed).contains i && preOK ops r (listed.setIfInBounds i true)
  | (i, false) :: r, listed => (Region.ready .any ops listed == [i]) && preOK ops r (listed.setIfInBounds i true)
def behind : List (Nat × Bool) → Array Bool → Array Bool
  | [], l => l
  | (i, _) :: r, l => behind r (l.setIfInBounds i true)
def planOK (ops : Array Oper) : Plan → Array Bool → Bool
  | .leaf r, l => schedOK ops r l
  | .fork r i p j q, l => preOK ops r l && (Region.ready .any ops (behind r l) == [i, j]) && !lastK ops i && !lastK ops j && Nat.beq p.len q.len && planOK ops p ((behind r l).setIfInBounds i true) && planOK ops q ((behind r l).setIfInBounds j true)
def seqP (P : Program) (ops : Array Oper) (Q : Exit → Act → World → Prop) (S : World → Prop) : Plan → Act → World → Prop
  | .leaf r, a, w => seqH P ops Q S r a w
  | .fork r i p j q, a, w => seqH P ops (forkQ Q fun a' w' => S w' ∧ wpOp P ops Q i (fun b v => (lastK ops i = true ∨ S v) ∧ seqP P ops Q S p b v) a' w' ∧ wpOp P ops Q j (fun b v => (lastK ops j = true ∨ S v) ∧ seqP P ops Q S q b v) a' w') S r a w
theorem pre_nil {r : List (Nat × Bool)} {l : Array Bool} (h : preOK ops r l = true) (hr : Region.ready .any ops l = []) : r = [] := by
  match r, h with
  | [], _ => rfl
  | (i, true) :: r, h => simp [preOK, hr] at h
  | (i, false) :: r, h => simp [preOK, hr] at h
theorem pre_sound {Q' : Exit → Act → World → Prop} (hs : Region.noSelect ops = true) (hQ : ∀ c a d v w, Q (.panic c) (Act.put a (some d) v) w → Q (.panic c) a w) (hQQ : ∀ c a w, Q' (.panic c) a w → Q (.panic c) a w) (hLL : LetsOut Q' → LetsOut Q) (n : Nat) :
    ∀ (r : List (Nat × Bool)) (listed : Array Bool) (a : Act) (w : World), preOK ops r listed = true → (r = [] ∨ S w) → seqH P ops Q' S r a w → (∀ a' w', Q' .normal a' w' → wpAnyL P ops Q S n (behind r listed) a' w') → wpAnyL P ops Q S (r.length + n) listed a w
  | [], listed, a, w, h, _, hq, hn => by
    rw [show ([] : List (Nat × Bool)).length + n = n by simp]
    exact hn a w hq
  | (i, true) :: r, listed, a, w, h, hS, hq, hn => by
    simp only [preOK, Bool.and_eq_true] at h
    obtain ⟨o, v, d, ho, hd, hy, hq⟩ := hq
    have hS := hS.resolve_left (by simp)
    have := pre_sound hs hQ hQQ hLL n r _ _ _ h.2 (.inr hS) hq hn
    rw [show ((i, true) :: r).length + n = (r.length + n) + 1 by simp; omega]
    exact takeL ho hs (fun c a w => by rw [hd]; exact hQ c a _ _ w) _ _ _ _ h.1.1 (by simpa using h.1.2) hy hS (by rw [hd]; exact this)
  | (i, false) :: r, listed, a, w, h, hS, hq, hn => by
    simp only [preOK, Bool.and_eq_true, beq_iff_eq] at h
    rw [show ((i, false) :: r).length + n = (r.length + n) + 1 by simp; omega]
    refine ⟨fun h0 => absurd (h.1.symm.trans h0) (by simp), fun j hj => ?_⟩
    have hji := hj
    rw [h.1] at hji
    obtain rfl : j = i := by simpa using hji
    change wpOp P ops Q' j (fun a' w' => (lastK ops j = true ∨ S w') ∧ seqH P ops Q' S r a' w') a w at hq
    have hq := wpOp_weak hQQ hLL hq
    refine wpOp_mono (fun a' w' ⟨h1, h2⟩ => ⟨h1, pre_sound hs hQ hQQ hLL n r _ _ _ h.2 ?_ h2 hn⟩) hq
    exact h1.imp (fun hl => pre_nil h.2 (lastK_none hl hj)) id
theorem plan_sound (hs : Region.noSelect ops = true) (hQ : ∀ c a d v w, Q (.panic c) (Act.put a (some d) v) w → Q (.panic c) a w) :
    ∀ (p : Plan) (listed : Array Bool) (a : Act) (w : World), planOK ops p listed = true → S w → seqP P ops Q S p a w → wpAnyL P ops Q S p.len listed a w
  | .leaf r, listed, a, w, h, hS, hq => seq_sound hs hQ r listed a w h (.inr hS) hq
  | .fork r i p j q, listed, a, w, h, hS, hq => by
    simp only [planOK, Bool.and_eq_true, beq_iff_eq, Bool.not_eq_true'] at h
    obtain ⟨⟨⟨⟨⟨⟨h1, h2⟩, h3⟩, h4⟩, h5⟩, h6⟩, h7⟩ := h
    have h5 := Nat.eq_of_beq_eq_true h5
    refine pre_sound (Q' := forkQ Q _) hs hQ (fun c a w h => h) (fun h => h) (p.len + 1) r listed a w h1 (.inr hS) hq (fun a' w' hf => ?_)
    obtain ⟨g1, g2, g3⟩ := hf
    refine ⟨fun h0 => absurd (h2.symm.trans h0) (by simp), fun k hk => ?_⟩
    rw [h2] at hk
    simp only [List.mem_cons, List.not_mem_nil, or_false] at hk
    rcases hk with rfl | rfl
    · exact wpOp_mono (fun b v hv => ⟨hv.1, plan_sound hs hQ p _ _ _ h6 (hv.1.resolve_left (by rw [h3]; simp)) hv.2⟩) g2
    · rw [h5]
      exact wpOp_mono (fun b v hv => ⟨hv.1, plan_sound hs hQ q _ _ _ h7 (hv.1.resolve_left (by rw [h4]; simp)) hv.2⟩) g3
/-- RunE over a plan. -/
def RunT (P : Program) (ops : Array Oper) (Q : Exit → Act → World → Prop) (S : World → Prop) : Plan → Act → List (Nat × Value) → World → Prop
  | .leaf r, a, e, w => RunE P ops Q S r a e w
  | .fork r i p j q, a, e, w => RunE P ops (forkQ Q fun a' w' => S w' ∧ wpOp P ops Q i (fun b v => (lastK ops i = true ∨ S v) ∧ seqP P ops Q S p b v) a' w' ∧ wpOp P ops Q j (fun b v => (lastK ops j = true ∨ S v) ∧ seqP P ops Q S q b v) a' w') S r a e w
theorem RunT.out {p : Plan} {a : Act} {e : List (Nat × Value)} {w : World} (h : RunT P ops Q S p a e w) (hk : keysIn a.tmps.size e) : seqP P ops Q S p (putAll a e) w := by
  cases p with
  | leaf r => exact RunE.out h hk
  | fork r i p j q => exact RunE.out h hk
/-- An operation ahead of a plan. -/
theorem cons_wp {i : Nat} {p : Plan} {a : Act} {w : World} (hl : lastK ops i = false) (h : seqP P ops Q S (p.cons i) a w) : wpOp P ops Q i (fun b v => (lastK ops i = true ∨ S v) ∧ seqP P ops Q S p b v) a w := by
  cases p with
  | leaf r => exact h
  | fork r j p k q => exact wpOp_weak (fun c a w h => h) (fun h => h) h
/-- The end of a fork's first part: both ways. -/
theorem run_fork {i j : Nat} {p q : Plan} {a : Act} {e : List (Nat × Value)} {w : World} (hS : S w) (hi : lastK ops i = false) (hj : lastK ops j = false) (h1 : RunT P ops Q S (p.cons i) a e w) (h2 : RunT P ops Q S (q.cons j) a e w) :
    RunE P ops (forkQ Q fun a' w' => S w' ∧ wpOp P ops Q i (fun b v => (lastK ops i = true ∨ S v) ∧ seqP P ops Q S p b v) a' w' ∧ wpOp P ops Q j (fun b v => (lastK ops j = true ∨ S v) ∧ seqP P ops Q S q b v) a' w') S [] a e w :=
  ⟨fun hk => ⟨hS, cons_wp hi (h1.out hk), cons_wp hj (h2.out hk)⟩⟩
theorem run_regionT {id : Nat} {ops' : Array Oper} {a : Act} {w : World} (p : Plan) (hops : ops' = ops) (hm : P.follows .mixedOrders = true) (hs : Region.noSelect ops = true) (hlen : Nat.beq p.len ops.size = true)
    (hsch : planOK ops p (Array.replicate ops.size false) = true) (hQ : ∀ c a d v w, Q (.panic c) (Act.put a (some d) v) w → Q (.panic c) a w) (hS : S w.drew)
    (h : RunT P ops Q S p a [] w.drew) : (Code.region id ops' true).wp P Q a w := by
  subst hops
  refine wp_region_any hm (wpAny_of_L (S := S) _ _ _ _ ?_)
  have hl := Nat.eq_of_beq_eq_true hlen
  show wpAnyL P ops' Q S ops'.size (Array.replicate ops'.size false) a w.drew
  generalize Array.replicate ops'.size false = L at hsch ⊢
  rw [← hl]
  exact plan_sound hs hQ p _ _ _ hsch hS (h.out (fun p hp => by cases hp))
end
/-- A new variable of type Vector, of type Item. -/
theorem new_vec (w : World) : (Instr.alloc 31 true (.tuple #[])).run Tryz.prog w = .ok (.pointer (some ⟨w.heap.size, 0, none⟩)) (w.alloc (.cells #[.int .i64 0, .slice none 0 0, .slice none 0 0, .slice none 0 0, .slice none 0 0, .slice none 0 0, .int .i64 0, .int .i64 0] 31)) := by
  kernel_rfl
theorem new_item (w : World) : (Instr.alloc 62 true (.tuple #[])).run Tryz.prog w = .ok (.pointer (some ⟨w.heap.size, 0, none⟩)) (w.alloc (.cells #[.int .i64 0, .int .i64 0, .string ⟨#[]⟩] 62)) := by
  kernel_rfl
section
variable {P : Program} {ops : Array Oper} {Q : Exit → Act → World → Prop} {S : World → Prop}
variable {r : List (Nat × Bool)} {a : Act} {e : List (Nat × Value)} {w : World} {i d : Nat} {g : Option (Nat × Bool)}
/-- A new variable, wherever it comes up. -/
theorem run_new {t : TypeId} {C : Array Value} (ho : opAt ops i = some (some d, .alloc t, g)) (hd : Nat.blt d a.tmps.size = true) (hw : wantE ops a e g = some true)
    (hn : ∀ v : World, (Instr.alloc t true (.tuple #[])).run P v = .ok (.pointer (some ⟨v.heap.size, 0, none⟩)) (v.alloc (.cells C t)))
    (h : ∀ W n, W = w.alloc (.cells C t) → n = w.heap.size → S W ∧ RunE P ops Q S r a ((d, .pointer (some ⟨n, 0, none⟩)) :: e) W) : RunE P ops Q S ((i, false) :: r) a e w := by
  obtain ⟨hS, hR⟩ := h _ _ rfl rfl
  exact run_eff (op := .alloc t) ho hd hw (fun o h1 => by unfold execOp; rw [h1]; exact run_v (hn w)) hS hR
end
section
variable {P : Program} {ops : Array Oper} {Q : Exit → Act → World → Prop} {S : World → Prop}
variable {r : List (Nat × Bool)} {a : Act} {e : List (Nat × Value)} {w : World} {i d : Nat} {g : Option (Nat × Bool)}
/-- The larger one of two ints. -/
theorem run_max2 {x y : Operand} {ats : Array TypeId} {p q z : Int} (ho : opAt ops i = some (some d, .call { callee := .builtin .max, args := [x, y].toArray, argTypes := ats }, g)) (hd : Nat.blt d a.tmps.size = true)
    (hw : wantE ops a e g = some true) (hx : lookO a e x = .int .i64 p) (hy : lookO a e y = .int .i64 q) (hz : (if q > p then q else p) = z)
    (h : RunE P ops Q S r a ((d, .int .i64 z) :: e) w) : RunE P ops Q S ((i, true) :: r) a e w :=
  run_yield ho hd hw (fun o w' h1 _ => by
    unfold execOp; rw [h1]
    have hx' : [x, y].toArray.map (lookO a e) = #[.int .i64 p, .int .i64 q] := by simp [hx, hy]
    have key : ∀ cs, (builtin .max ats o.type cs ([x, y].toArray.map (lookO a e))).run P w' = .ok (.value (.int .i64 z)) w' := fun cs => by
      rw [hx']
      show (do pure (.value (← Builtin.max_ ats o.type #[.int .i64 p, .int .i64 q])) : Sem Next).run P w' = _
      refine run_v ?_
      rw [run_max_int2, hz]
    exact key #[]) h
end
/-- A vector stored whole into a block that holds one. -/
theorem store_vec8 {w : World} {b : Nat} {z0 z1 z2 z3 z4 z5 z6 z7 c0 c1 c2 c3 c4 c5 c6 c7 : Value} (h : w.heap[b]? = some (.cells #[z0, z1, z2, z3, z4, z5, z6, z7] 31 (0, 0))) (h1 : (#[c0, c1, c2, c3, c4, c5, c6, c7] : Array Value).all (·.oneCell') = true) :
    (Instr.storeAt 31 (.pointer (some ⟨b, 0, none⟩)) (.agg #[c0, c1, c2, c3, c4, c5, c6, c7])).run Tryz.prog w = .ok () (w.setRow b #[c0, c1, c2, c3, c4, c5, c6, c7]) := by
  have e := run_storeVar_row (P := Tryz.prog) w b _ 31 #[z0, z1, z2, z3, z4, z5, z6, z7] #[c0, c1, c2, c3, c4, c5, c6, c7] h infoVec rfl h1
  simp only [Instr.storeAt, Instr.sureAddr, Sem.run_bind, Sem.run_pure, Result.andThen_ok, e]
theorem Own.row {d : Nat} {V : Vec} {y : Value} {lo hi g : Nat} {c : Array Value} {w : World} (h : Own d V y lo hi w) (hg : g < lo) : Own d V y lo hi (w.setRow g c) := by
  obtain ⟨F, q1, q2, q3⟩ := h.out
  exact ⟨F, q1.kept _ _ _ _ (fun b hb => row_old rfl (by have := (q3 b hb).1; omega)), q2, q3⟩
theorem row_size (w : World) (g : Nat) (c : Array Value) : w.heap.size ≤ (w.setRow g c).heap.size := (below_row (Below.refl 0 w) (Nat.zero_le _) c).size
/-- A block that was made in a region. -/
structure NewB (b : Nat) (t : TypeId) (C : Array Value) (w : World) : Prop where
  out : w.heap[b]? = some (.cells C t (0, 0))
theorem NewB.keep {b : Nat} {t : TypeId} {C : Array Value} {w w1 : World} (h : NewB b t C w) (hb : Below w.heap.size w w1) : NewB b t C w1 := ⟨blk_below hb h.out⟩
end Go.Proofs.YtjpdnabfpiengaaGreat

/- CumulativeOf as data; rows of items beside a variable that changes. -/
namespace Go.Proofs.YtjpdnabfpiengaaGreat
open Go.RowKit
set_option maxRecDepth 100000
set_option linter.unusedVariables false

theorem smyL_false {v : Vec} (h : ValidV v) (hc : Counts v) : smyL false v = itemsV v := by
  rw [(smy_yes h hc (fun _ => noI) false nonNumB).1, pickL_no]
noncomputable def cumV (v : Vec) : Vec := match bB (ValidV v ∧ Counts v) with | true => mkN 2 (runL (smyL false v)) (namesV v) | false => noV
theorem cum_val {v : Vec} (h : smyS nonNumB v = ⟨#[]⟩) : cumV v = mkN 2 (runL (smyL false v)) (namesV v) := by
  have := smy_empty (by decide) h
  unfold cumV
  rw [bB_yes this]
theorem cum_not {v : Vec} (h : ¬ smyS nonNumB v = ⟨#[]⟩) : cumV v = noV := by
  unfold cumV
  rw [bB_no]
  rintro ⟨a, b⟩
  exact h (smy_yes a b (fun _ => noI) false nonNumB).2.1
theorem runL_len (l : List It) : (runL l).length = l.length := itF_len _ _
theorem cum_plain {d : Nat} {v : Vec} (hsm : Small d v) : PlainN (cumV v) := by
  unfold cumV
  split
  · cases d with
    | zero => exact hsm.elim
    | succ d =>
      have hl := smyL_len false v
      obtain ⟨k, items, parts, names, cls, levels, code, env⟩ := v
      refine .inr ⟨_, _, _, rfl, by decide, by rw [runL_len]; exact hl, fun x hx => ?_, hsm.2.2.1, hsm.2.2.2.2.2.2.1⟩
      obtain ⟨i, _, rfl⟩ := mem_itF hx
      have := good_sumL (List.take (i + 1) (smyL false (.mk k items parts names cls levels code env)))
      exact ⟨this.1, by rw [this.2]; exact Nat.zero_le _⟩
  · exact .inl rfl
theorem ownsRow_apart {w w' : World} {B size n : Nat} {el : TypeId} {v : Value} {xs : List Value} (h : w.ownsRow B el size v n xs) (hk : ∀ b, B ≤ b → v.ownBlock = some b → w'.heap[b]? = w.heap[b]?) : w'.ownsRow B el size v n xs := by
  obtain ⟨a, h⟩ := h
  refine ⟨a, ?_⟩
  rcases h with h | ⟨g, cap, cur, e, hB, hb, r⟩
  · exact .inl h
  · exact .inr ⟨g, cap, cur, e, hB, (hk g hB (by rw [e]; rfl)).trans hb, r⟩
/-- An item appended to a row from a base on. -/
theorem wpList_appRow {w : World} {B : Nat} {ops : Array Oper} {rest : List Oper} {o : Oper} {a : Act} {Q : Exit → Act → World → Prop} (hgd : o.guard = none) (s x : Operand)
    (ho : o.op = .call { callee := .builtin .append, args := #[s, x], argTypes := #[28, 28] }) (z : It) (l : List It) (v0 : Value) (b : Nat) (hs : a.eval s = v0) (hx : a.eval x = .slice (some ⟨b, 0, none⟩) 1 1)
    (hr : w.ownsRow B 62 3 v0 l.length (itCells l)) (hB : B ≤ w.heap.size) (hb : w.heap[b]? = some (.cells #[.int .i64 z.n, .int .i64 z.d, .string z.t] 62 (0, 0))) (hn : l.length ≤ 1048576)
    (h : ∀ v' w', w'.ownsRow B 62 3 v' (l ++ [z]).length (itCells (l ++ [z])) → Below B w w' → wpList Tryz.prog ops Q rest (a.put o.dst v') w') : wpList Tryz.prog ops Q (o :: rest) a w := by
  obtain ⟨i0, hi0, hz0, hz1, hz2⟩ := info_parts infoItm3
  refine wpList_append_own w hgd s x 28 ho B 62 i0 _ 3 32 Tryz.underlying28 hi0 hz0 hz1 hz2 rfl (by decide) v0 l.length (itCells l) hs hr ⟨b, 0, none⟩ 1 1 (itCells [z]) hx rfl (fun j u hj => ?_) (itCells_one _) (by unfold maxLen; omega) (by omega) hB (fun v' w' h1 h2 _ => ?_)
  · have hlt : j < 3 := by have := (List.getElem?_eq_some_iff.1 hj).1; simpa [itCells] using this
    rw [addr_add, Nat.zero_add]
    refine cellOf hb ?_
    rw [← hj]
    rcases (show j = 0 ∨ j = 1 ∨ j = 2 by omega) with rfl | rfl | rfl <;> rfl
  · have e1 : l.length + 1 = (l ++ [z]).length := by simp
    have e2 : itCells l ++ itCells [z] = itCells (l ++ [z]) := (itCells_app l [z]).symm
    rw [e1, e2] at h1
    exact h v' w' h1 ((Below.refl B w).grown h2 hB (fun r hr' => (hr.lt r hr').1))
theorem blk_set3'' {w : World} {a g : Nat} {x y z : Value} (hg : a ≠ g) : (((w.setCell ⟨g, 0, none⟩ x).setCell ⟨g, 1, none⟩ y).setCell ⟨g, 2, none⟩ z).heap[a]? = w.heap[a]? := by
  rw [Below.heap_setCell _ _ _ _ hg, Below.heap_setCell _ _ _ _ hg, Below.heap_setCell _ _ _ _ hg]
/-- What the loop of runningSums keeps: the sums so far, the last one in a variable. -/
structure RunR (w wr : World) (B g : Nat) (l : List It) (s : It) (v : Value) : Prop where
  row : wr.ownsRow B 62 3 v l.length (itCells l)
  below : Below w.heap.size w wr
  num : wr.heap[g]? = some (.cells #[.int .i64 s.n, .int .i64 s.d, .string s.t] 62 (0, 0))
  big : B ≤ wr.heap.size
theorem RunR.keep {w wr w1 : World} {B g : Nat} {l : List It} {s : It} {v : Value} (h : RunR w wr B g l s v) (hb : Below wr.heap.size wr w1) : RunR w w1 B g l s v :=
  ⟨ownsRow_below h.row hb, below_then h.below hb, blk_below hb h.num, Nat.le_trans h.big hb.size⟩
theorem RunR.set {w wr : World} {B g : Nat} {l : List It} {s z : It} {v : Value} (h : RunR w wr B g l s v) (hg : g < B) (hw : w.heap.size ≤ g) : RunR w (((wr.setCell ⟨g, 0, none⟩ (.int .i64 z.n)).setCell ⟨g, 1, none⟩ (.int .i64 z.d)).setCell ⟨g, 2, none⟩ (.string z.t)) B g l z v :=
  ⟨ownsRow_apart h.row (fun b hb _ => blk_set3'' (by omega)), below_three h.below hw _ _ _, cells_set3 h.num, by simpa using h.big⟩
/-- What the reference's loop keeps: the vector and its names, the sums so far, the last one in a variable. -/
structure CumR (w wr : World) (b g : Nat) (l : List It) (s : It) (sa : Option Addr) (sn sc : Nat) (names : List ByteArray) (na : Option Addr) (nc : Nat) (F : List Nat) : Prop where
  vec : wr.heap[b]? = some (.cells #[.int .i64 2, .slice sa sn sc, .slice none 0 0, .slice na names.length nc, .slice none 0 0, .slice none 0 0, .int .i64 0, .int .i64 0] 31 (0, 0))
  num : wr.heap[g]? = some (.cells #[.int .i64 s.n, .int .i64 s.d, .string s.t] 62 (0, 0))
  row : wr.ownsRow (g + 1) 62 3 (.slice sa sn sc) l.length (itCells l)
  nms : OwnTxs wr na names F
  cap : names.length ≤ nc
  nd : F.Nodup
  rng : ∀ x ∈ F, w.heap.size ≤ x ∧ x < b
  below : Below w.heap.size w wr
  o1 : w.heap.size ≤ b
  o2 : b < g
theorem CumR.big {w wr : World} {b g : Nat} {l : List It} {s : It} {sa : Option Addr} {sn sc : Nat} {names : List ByteArray} {na : Option Addr} {nc : Nat} {F : List Nat} (h : CumR w wr b g l s sa sn sc names na nc F) : g < wr.heap.size := (Array.getElem?_eq_some_iff.1 h.num).1
theorem CumR.keep {w wr w1 : World} {b g : Nat} {l : List It} {s : It} {sa : Option Addr} {sn sc : Nat} {names : List ByteArray} {na : Option Addr} {nc : Nat} {F : List Nat} (h : CumR w wr b g l s sa sn sc names na nc F) (hb : Below wr.heap.size wr w1) : CumR w w1 b g l s sa sn sc names na nc F :=
  ⟨blk_below hb h.vec, blk_below hb h.num, ownsRow_below h.row hb, h.nms.kept (fun x hx => hb.block x (by have := h.rng x hx; have := h.big; have := h.o2; omega)), h.cap, h.nd, h.rng, below_then h.below hb, h.o1, h.o2⟩
theorem CumR.put {w wr : World} {b g : Nat} {l : List It} {s z : It} {sa : Option Addr} {sn sc : Nat} {names : List ByteArray} {na : Option Addr} {nc : Nat} {F : List Nat} (h : CumR w wr b g l s sa sn sc names na nc F) : CumR w (wr.setRow g #[.int .i64 z.n, .int .i64 z.d, .string z.t]) b g l z sa sn sc names na nc F :=
  ⟨row_old h.vec (by have := h.o2; omega), row_set h.num, ownsRow_apart h.row (fun x hx _ => row_old rfl (by omega)), h.nms.kept (fun x hx => row_old rfl (by have := h.rng x hx; have := h.o2; omega)), h.cap, h.nd, h.rng, below_row h.below (by have := h.o1; have := h.o2; omega) _, h.o1, h.o2⟩
theorem CumR.next {w wr W : World} {b g : Nat} {l : List It} {s z : It} {sa sa' : Option Addr} {sn sc sn' sc' : Nat} {names : List ByteArray} {na : Option Addr} {nc : Nat} {F : List Nat} (h : CumR w wr b g l s sa sn sc names na nc F)
    (hK : W.heap[b]? = some (.cells (#[.int .i64 2, .slice sa sn sc, .slice none 0 0, .slice na names.length nc, .slice none 0 0, .slice none 0 0, .int .i64 0, .int .i64 0].setIfInBounds 1 (.slice sa' sn' sc')) 31 (0, 0)))
    (hO : W.ownsRow (g + 1) 62 3 (.slice sa' sn' sc') (l ++ [z]).length (itCells (l ++ [z]))) (hB : Below w.heap.size w W)
    (hN : W.heap[g]? = some (.cells #[.int .i64 s.n, .int .i64 s.d, .string s.t] 62 (0, 0))) (hF : ∀ x ∈ F, W.heap[x]? = wr.heap[x]?) : CumR w W b g (l ++ [z]) s sa' sn' sc' names na nc F :=
  ⟨hK, hN, hO, h.nms.kept hF, h.cap, h.nd, h.rng, hB, h.o1, h.o2⟩
theorem CumR.own {w wr : World} {b g : Nat} {l : List It} {s : It} {sa : Option Addr} {sn sc : Nat} {names : List ByteArray} {na : Option Addr} {nc : Nat} {F : List Nat} (h : CumR w wr b g l s sa sn sc names na nc F) :
    Own 1 (mkN 2 l names) (.agg #[.int .i64 2, .slice sa sn sc, .slice none 0 0, .slice na names.length nc, .slice none 0 0, .slice none 0 0, .int .i64 0, .int .i64 0]) w.heap.size wr.heap.size wr := by
  obtain ⟨a, c, Fi, e, ho, hn, hr, hc⟩ := own_of_its h.row
  obtain ⟨rfl, rfl, rfl⟩ : sa = a ∧ sn = l.length ∧ sc = c := by simpa using e
  refine ⟨Fi ++ F, ?_, ?_, ?_⟩
  · show OwnVec wr 1 (.mk 2 l [] names [] [] 0 0) _ _
    unfold OwnVec
    exact ⟨sa, sc, none, 0, na, nc, none, 0, none, 0, Fi, [], F, [], [], rfl, by simp, ⟨hc, Nat.le_refl _, h.cap, Nat.le_refl _, Nat.le_refl _⟩, ho, h.nms, .inl ⟨rfl, rfl⟩, .inl ⟨rfl, rfl⟩, .inl ⟨rfl, rfl⟩⟩
  · rw [List.nodup_append]
    exact ⟨hn, h.nd, fun x hx y hy e => by have := hr x hx; have := h.rng y hy; have := h.o2; omega⟩
  · intro x hx
    have h1 := h.o1; have h2 := h.o2; have h3 := h.big
    rcases List.mem_append.1 hx with hx | hx
    · have := hr x hx; omega
    · have := h.rng x hx; omega
section
variable {ops : Array Oper} {Q : Exit → Act → World → Prop} {S : World → Prop}
variable {r : List (Nat × Bool)} {a : Act} {e : List (Nat × Value)} {w : World} {i d : Nat} {g : Option (Nat × Bool)}
theorem run_bldK {k : Int} {x y : Operand} {sa sb : Option Addr} {n m n' m' : Nat} (ho : opAt ops i = some (some d, .build 31 #[(0, .const (.int .i64 k)), (1, x), (3, y)], g)) (hd : Nat.blt d a.tmps.size = true) (hw : wantE ops a e g = some true)
    (hx : lookO a e x = .slice sa n m) (hy : lookO a e y = .slice sb n' m') (hS : S w)
    (h : RunE Tryz.prog ops Q S r a ((d, .agg #[.int .i64 k, .slice sa n m, .slice none 0 0, .slice sb n' m', .slice none 0 0, .slice none 0 0, .int .i64 0, .int .i64 0]) :: e) w) : RunE Tryz.prog ops Q S ((i, false) :: r) a e w := by
  have hc : lookO a e (.const (.int .i64 k)) = .int .i64 k := rfl
  refine run_eff ho hd hw (fun o h1 => ?_) hS h
  unfold execOp
  simp only [h1, List.map_toArray, List.map_cons, List.map_nil, hx, hy, hc]
  exact run_v build_v3
end
end Go.Proofs.YtjpdnabfpiengaaGreat

/- The program's remainders. -/
namespace Go.Proofs.YtjpdnabfpiengaaGreat
set_option maxRecDepth 100000
open Go.RowKit
set_option linter.unusedVariables false

set_option maxHeartbeats 8000000 in
theorem implRem (x y : It) (w : World) (hx : x.t.size ≤ 9223372036854775807) (hy : y.t.size ≤ 9223372036854775807) :
    Calls Tryz.prog 66 #[.agg #[.int .i64 x.n, .int .i64 x.d, .string x.t], .agg #[.int .i64 y.n, .int .i64 y.d, .string y.t]] w fun e w' => e = .returned (.agg #[.int .i64 (remI x y).n, .int .i64 (remI x y).d, .string (remI x y).t]) ∧ Below w.heap.size w w' := by
  cases h : both x y
  · have X := Lib.hid (show remI x y = noI by unfold remI; simp [h])
    have N := Lib.hid h
    clear h
    go_enter Tryz.func66, Tryz.ntmps66
    go_wp2_with fail
    refine (areNo x y _ hx hy N.out).mono ?_
    rintro e w1 ⟨rfl, hb⟩
    obtain ⟨hc, hf⟩ := bcell hb
    have B1 := Lib.hid (below_then (below3 w _ _ _) hb)
    have G := Lib.hid (blk_below (g := w.heap.size + 2) hb (blk_new _ _ (by simp)))
    clear hb
    go_wp2
    rw [X.out]
    exact item_ret rfl rfl rfl G.out ⟨rfl, below_three B1.out (by omega) _ _ _⟩
  · by_cases h0 : y.n = 0
    · have X := Lib.hid (show remI x y = noI by unfold remI; rw [if_neg (by simp [h0])])
      have N := Lib.hid h
      have h0' : (y.n == 0) = true := by simp [h0]
      clear h h0
      go_enter Tryz.func66, Tryz.ntmps66
      go_wp2_with fail
      refine (areYes x y _ hx hy N.out).mono ?_
      rintro e w1 ⟨rfl, hb⟩
      obtain ⟨hc, hf⟩ := bcell hb
      have B1 := Lib.hid (below_then (below3 w _ _ _) hb)
      have G := Lib.hid (blk_below (g := w.heap.size + 2) hb (blk_new _ _ (by simp)))
      have hz : w.heap.size + 2 < w1.heap.size := by have := hb.size; simp at this; omega
      clear hb
      go_wp2
      rw [X.out]
      exact item_ret rfl rfl rfl G.out ⟨rfl, below_three B1.out (by omega) _ _ _⟩
    · have P := parts_in (both_iff.1 h).1 (both_iff.1 h).2
      have R := Lib.hid (implRatio x y)
      have PP := Lib.hid (show (-999999998000000001 ≤ x.n * y.d ∧ x.n * y.d ≤ 999999998000000001) ∧ (-999999998000000001 ≤ x.d * y.n ∧ x.d * y.n ≤ 999999998000000001) by omega)
      have D := Lib.hid (show x.d * y.n ≠ 0 from Int.mul_ne_zero (by have := isN_iff.1 (both_iff.1 h).1; omega) h0)
      have N := Lib.hid h
      have h0' : (y.n == 0) = false := by simp [h0]
      have X := Lib.hid (rem_mk h h0)
      have E := Lib.hid (fun W => implExcess (x.n * y.d) (x.d * y.n) W (by omega) (by omega) (by omega) (by omega) D.out)
      have c0 : -999999998000000001 ≤ x.d * y.d := by omega
      have c1 : x.d * y.d ≤ 999999998000000001 := by omega
      have f := fmod_in (n := x.n * y.d) (d := x.d * y.n) (A := 999999998000000001) (by omega) (by omega) D.out
      obtain ⟨r, hr⟩ : ∃ r, (x.n * y.d).fmod (x.d * y.n) = r := ⟨_, rfl⟩
      rw [hr] at X E f
      have ew : IntKind.wrap .i64 (x.d * y.d) = x.d * y.d := by rw [IntWalk.i64_left]; exact IntWalk.wrap64_in _ (by omega)
      have FN : Hid (∀ W, Calls Tryz.prog 84 #[.agg #[.int .i64 r, .int .i64 (IntKind.wrap .i64 (x.d * y.d))]] W fun e w' => e = .returned (.agg #[.int .i64 (mkI r (x.d * y.d)).n, .int .i64 (mkI r (x.d * y.d)).d, .string ⟨#[]⟩]) ∧ Below W.heap.size W w') := by
        refine Lib.hid ?_
        intro W
        rw [ew]
        exact fracNumber r (x.d * y.d) W ⟨by omega, by omega⟩ ⟨by omega, by omega⟩
      clear h P h0 hr f ew c0 c1
      go_enter Tryz.func66, Tryz.ntmps66
      go_wp2_with fail
      refine (areYes x y _ hx hy N.out).mono ?_
      rintro e w1 ⟨rfl, hb⟩
      obtain ⟨hc, hf⟩ := bcell hb
      have B1 := Lib.hid (below_then (below3 w _ _ _) hb)
      have GX := Lib.hid (blk_below (g := w.heap.size) hb (blk_old (blk_old (blk_new _ _ rfl))))
      have GY := Lib.hid (blk_below (g := w.heap.size + 1) hb (blk_old (blk_new _ _ (by simp))))
      have GR := Lib.hid (blk_below (g := w.heap.size + 2) hb (blk_new _ _ (by simp)))
      have hz : w.heap.size + 2 < w1.heap.size := by have := hb.size; simp at this; omega
      have BS := Lib.hid (Below.refl w1.heap.size w1)
      clear hb
      go_wp2_with fail
      clear hc hf
      go_region_held3 (fun w' => w'.cell? ⟨w.heap.size, 0, none⟩ = some (.int .i64 x.n) ∧ w'.cell? ⟨w.heap.size, 1, none⟩ = some (.int .i64 x.d) ∧ w'.cell? ⟨w.heap.size, 2, none⟩ = some (.string x.t) ∧ w'.cell? ⟨w.heap.size + 1, 0, none⟩ = some (.int .i64 y.n) ∧ w'.cell? ⟨w.heap.size + 1, 1, none⟩ = some (.int .i64 y.d) ∧ w'.cell? ⟨w.heap.size + 1, 2, none⟩ = some (.string y.t)) (first | with_reducible exact six (blk_drew GX.out) (blk_drew GY.out) | with_reducible exact six GX.out GY.out | ((with_reducible refine six (blk_set3 GX.out ?_) (blk_set3 GY.out ?_)) <;> omega)) (first
        | (go_at_call 86; refine (R.out _ PP.out).mono ?_; rintro e w2 ⟨rfl, hb⟩; have GX := Lib.hid (blk_step hb (by first | with_reducible exact .same | with_reducible exact .drew) GX.out); have GY := Lib.hid (blk_step hb (by first | with_reducible exact .same | with_reducible exact .drew) GY.out); have GR := Lib.hid (blk_step hb (by first | with_reducible exact .same | with_reducible exact .drew) GR.out); have BS := Lib.hid (below_step BS.out (by first | with_reducible exact .same | with_reducible exact .drew) hb BS.out.size); have hs := BS.out.size; clear hb)
        | (go_at_call 87; refine (E.out _).mono ?_; rintro e w3 ⟨rfl, hb⟩; have GX := Lib.hid (blk_step hb (by first | with_reducible exact .same | with_reducible exact .drew) GX.out); have GY := Lib.hid (blk_step hb (by first | with_reducible exact .same | with_reducible exact .drew) GY.out); have GR := Lib.hid (blk_step hb (by first | with_reducible exact .same | with_reducible exact .drew) GR.out); have BS := Lib.hid (below_step BS.out (by first | with_reducible exact .same | with_reducible exact .drew) hb BS.out.size); have hs := BS.out.size; clear hb)
        | (go_at_call 84; refine (FN.out _).mono ?_; rintro e w4 ⟨rfl, hb⟩; have GX := Lib.hid (blk_step hb (by first | with_reducible exact .same | with_reducible exact .drew) GX.out); have GY := Lib.hid (blk_step hb (by first | with_reducible exact .same | with_reducible exact .drew) GY.out); have GR := Lib.hid (blk_step hb (by first | with_reducible exact .same | with_reducible exact .drew) GR.out); have BS := Lib.hid (below_step BS.out (by first | with_reducible exact .same | with_reducible exact .drew) hb BS.out.size); have hs := BS.out.size; clear hb; (have G6 := three GR.out; obtain ⟨⟨c0, c1, c2⟩, f0, f1, f2⟩ := G6)))
      all_goals
        go_wp2
        rw [← X.out, mkI_t]
        exact item_ret rfl rfl rfl GR.out ⟨rfl, below_three (below_then B1.out BS.out) (by omega) _ _ _⟩
end Go.Proofs.YtjpdnabfpiengaaGreat

/- ArithmeticOf of the program. -/
namespace Go.Proofs.YtjpdnabfpiengaaGreat
open Go.RowKit
set_option maxRecDepth 100000
set_option linter.unusedVariables false

set_option maxHeartbeats 16000000 in
theorem implArithmeticOf (d0 d1 : Nat) (a b : Vec) (op : ByteArray) (va vb : Value) (lo hi : Nat) (w : World) (h0 : VecAt lo hi w d0 a va) (h1 : VecAt lo hi w d1 b vb) (hhi : hi ≤ w.heap.size) (hsm0 : Small d0 a) (hsm1 : Small d1 b) :
    Calls Tryz.prog 19 #[.string op, va, vb] w (ResVS 1 (ariV (idxA op) a b) (ariS (idxA op) a b) w) := by
  have PB := Lib.hid (fun (w1 : World) (hb : Below w.heap.size w w1) (known : Bool) => implPrb d0 d1 a b va vb known nonNumB lo hi w1 (h0.below hb hhi) (h1.below hb hhi) (Nat.le_trans hhi hb.size) hsm0 hsm1)
  obtain ⟨VA, hVA⟩ : ∃ V, a = V := ⟨_, rfl⟩
  obtain ⟨VB, hVB⟩ : ∃ V, b = V := ⟨_, rfl⟩
  rw [hVA, hVB] at PB
  rw [hVA, hVB]
  obtain ⟨k0, items0, parts0, names0, cls0, lev0, code0, env0⟩ := a
  obtain ⟨d0', ai0, ci0, ap0, cp0, an0, cn0, ac0, cc0, al0, cl0, ed0, rfl, hI0, hN0, hC0, hL0, hP0⟩ := vecAt_open h0
  have ln0 : names0.length ≤ 1048576 := by subst ed0; exact hsm0.2.2.1
  have li0 : items0.length ≤ 1048576 := by subst ed0; exact hsm0.1
  have lp0 : parts0.length ≤ 1048576 := by subst ed0; exact hsm0.2.1
  obtain ⟨k1, items1, parts1, names1, cls1, lev1, code1, env1⟩ := b
  obtain ⟨d1', ai1, ci1, ap1, cp1, an1, cn1, ac1, cc1, al1, cl1, ed1, rfl, hI1, hN1, hC1, hL1, hP1⟩ := vecAt_open h1
  have ln1 : names1.length ≤ 1048576 := by subst ed1; exact hsm1.2.2.1
  have li1 : items1.length ≤ 1048576 := by subst ed1; exact hsm1.1
  have lp1 : parts1.length ≤ 1048576 := by subst ed1; exact hsm1.2.1
  go_enter Tryz.func19, Tryz.ntmps19
  go_wp2_with fail
  obtain ⟨w1, hw1⟩ : ∃ W, ((w.alloc (.cells #[.int .i64 k0, .slice ai0 items0.length ci0, .slice ap0 parts0.length cp0, .slice an0 names0.length cn0, .slice ac0 cls0.length cc0, .slice al0 lev0.length cl0, .int .i64 code0, .int .i64 env0] 31)).alloc (.cells #[.int .i64 k1, .slice ai1 items1.length ci1, .slice ap1 parts1.length cp1, .slice an1 names1.length cn1, .slice ac1 cls1.length cc1, .slice al1 lev1.length cl1, .int .i64 code1, .int .i64 env1] 31)).alloc (.cells #[.int .i64 0, .slice none 0 0, .slice none 0 0, .slice none 0 0, .slice none 0 0, .slice none 0 0, .int .i64 0, .int .i64 0] 31) = W := ⟨_, rfl⟩
  have hsz1 : (w.alloc (.cells #[.int .i64 k0, .slice ai0 items0.length ci0, .slice ap0 parts0.length cp0, .slice an0 names0.length cn0, .slice ac0 cls0.length cc0, .slice al0 lev0.length cl0, .int .i64 code0, .int .i64 env0] 31)).heap.size = w.heap.size + 1 := by simp
  have hsz2 : ((w.alloc (.cells #[.int .i64 k0, .slice ai0 items0.length ci0, .slice ap0 parts0.length cp0, .slice an0 names0.length cn0, .slice ac0 cls0.length cc0, .slice al0 lev0.length cl0, .int .i64 code0, .int .i64 env0] 31)).alloc (.cells #[.int .i64 k1, .slice ai1 items1.length ci1, .slice ap1 parts1.length cp1, .slice an1 names1.length cn1, .slice ac1 cls1.length cc1, .slice al1 lev1.length cl1, .int .i64 code1, .int .i64 env1] 31)).heap.size = w.heap.size + 1 + 1 := by simp
  have B1 := Lib.hid (show Below w.heap.size w w1 from hw1 ▸ (below2 w _ _).alloc (by simp; omega) _)
  have KA := Lib.hid (show w1.heap[w.heap.size]? = some (.cells #[.int .i64 k0, .slice ai0 items0.length ci0, .slice ap0 parts0.length cp0, .slice an0 names0.length cn0, .slice ac0 cls0.length cc0, .slice al0 lev0.length cl0, .int .i64 code0, .int .i64 env0] 31 (0, 0)) from hw1 ▸ blk_old (blk_old (blk_new w _ rfl)))
  have KB := Lib.hid (show w1.heap[w.heap.size + 1]? = some (.cells #[.int .i64 k1, .slice ai1 items1.length ci1, .slice ap1 parts1.length cp1, .slice an1 names1.length cn1, .slice ac1 cls1.length cc1, .slice al1 lev1.length cl1, .int .i64 code1, .int .i64 env1] 31 (0, 0)) from hw1 ▸ blk_old (hsz1 ▸ blk_new (w.alloc (.cells #[.int .i64 k0, .slice ai0 items0.length ci0, .slice ap0 parts0.length cp0, .slice an0 names0.length cn0, .slice ac0 cls0.length cc0, .slice al0 lev0.length cl0, .int .i64 code0, .int .i64 env0] 31)) (.cells #[.int .i64 k1, .slice ai1 items1.length ci1, .slice ap1 parts1.length cp1, .slice an1 names1.length cn1, .slice ac1 cls1.length cc1, .slice al1 lev1.length cl1, .int .i64 code1, .int .i64 env1] 31) rfl))
  have KR := Lib.hid (show w1.heap[w.heap.size + 1 + 1]? = some (.cells #[.int .i64 0, .slice none 0 0, .slice none 0 0, .slice none 0 0, .slice none 0 0, .slice none 0 0, .int .i64 0, .int .i64 0] 31 (0, 0)) from hw1 ▸ hsz2 ▸ blk_new ((w.alloc (.cells #[.int .i64 k0, .slice ai0 items0.length ci0, .slice ap0 parts0.length cp0, .slice an0 names0.length cn0, .slice ac0 cls0.length cc0, .slice al0 lev0.length cl0, .int .i64 code0, .int .i64 env0] 31)).alloc (.cells #[.int .i64 k1, .slice ai1 items1.length ci1, .slice ap1 parts1.length cp1, .slice an1 names1.length cn1, .slice ac1 cls1.length cc1, .slice al1 lev1.length cl1, .int .i64 code1, .int .i64 env1] 31)) (.cells #[.int .i64 0, .slice none 0 0, .slice none 0 0, .slice none 0 0, .slice none 0 0, .slice none 0 0, .int .i64 0, .int .i64 0] 31) rfl)
  rw [hw1]
  clear hw1 hsz1 hsz2
  with_reducible refine (implAriOps w1).mono ?_
  rintro e w2 ⟨rfl, hm, b'⟩
  have B2 := Lib.hid (below_then B1.out b')
  have KA := Lib.hid (blk_below b' KA.out)
  have KB := Lib.hid (blk_below b' KB.out)
  have KR := Lib.hid (blk_below b' KR.out)
  obtain ⟨gm, hgm⟩ : ∃ g, w1.heap.size = g := ⟨_, rfl⟩
  rw [hgm] at hm ⊢
  have MP := Lib.hid hm
  clear b' hgm hm
  obtain ⟨ka0, ka1, ka2, ka3, ka4, ka5, ka6, ka7⟩ := vec8 KA.out
  obtain ⟨kb0, kb1, kb2, kb3, kb4, kb5, kb6, kb7⟩ := vec8 KB.out
  by_cases h_0 : op = opA 0
  · have EI := Lib.hid (idx_0  h_0)
    obtain rfl : op = ⟨#[43]⟩ := h_0
    clear hsm0 hsm1
    have lk := lookA_0 MP.out
    have XS := Lib.hid (show ariS (some 0) VA VB = prbB true VA VB nonNumB from ariS_prb (some 0) VA VB)
    go_wp2_with fail
    refine (PB.out w2 B2.out true).mono ?_
    rintro e w4 ⟨rfl, b⟩
    have B4 := Lib.hid (below_then B2.out b)
    have KA := Lib.hid (blk_below b KA.out)
    have KB := Lib.hid (blk_below b KB.out)
    have KR := Lib.hid (blk_below b KR.out)
    clear b ka0 ka1 ka2 ka3 ka4 ka5 ka6 ka7 kb0 kb1 kb2 kb3 kb4 kb5 kb6 kb7 lk
    by_cases hp : prbB true VA VB nonNumB = ⟨#[]⟩
    · have OK := Lib.hid (prb_ok (u := nonNumB) (by decide) hp)
      rw [hp]
      rw [hp] at XS
      obtain ⟨hv, hcc, hnn⟩ := OK.out
      have XV := Lib.hid (ari_yes (i := 0) hv hcc hnn)
      have EA := Lib.hid (show itL VA = items0.length by rw [← hVA]; rfl)
      have EB := Lib.hid (show itL VB = items1.length by rw [← hVB]; rfl)
      have ma : items0.length ≤ 40 := by rw [← EA.out]; exact itL_le hv.1 hcc.1
      have mb : items1.length ≤ 40 := by rw [← EB.out]; exact itL_le hv.2 hcc.2
      have XA : ∀ i, i < items0.length → NumIt (items0.getD i noI) := fun i hi => num_at (by rw [hVA]; exact hv.1) (by rw [hVA]; exact hcc.1) hi
      have XB : ∀ i, i < items1.length → NumIt (items1.getD i noI) := fun i hi => num_at (by rw [hVB]; exact hv.2) (by rw [hVB]; exact hcc.2) hi
      have FA : FlatOk k0 items0 parts0.length names0 cls0 lev0 code0 env0 := by have h := hv.1; rw [← hVA] at h; exact h.1.flat
      have FB : FlatOk k1 items1 parts1.length names1 cls1 lev1 code1 env1 := by have h := hv.2; rw [← hVB] at h; exact h.1.flat
      have CRI := Lib.hid (fun (W : World) (hH : HeldC w W ([(w.heap.size, 31, #[.int .i64 k0, .slice ai0 items0.length ci0, .slice ap0 parts0.length cp0, .slice an0 names0.length cn0, .slice ac0 cls0.length cc0, .slice al0 lev0.length cl0, .int .i64 code0, .int .i64 env0]), ((w.heap.size + 1), 31, #[.int .i64 k1, .slice ai1 items1.length ci1, .slice ap1 parts1.length cp1, .slice an1 names1.length cn1, .slice ac1 cls1.length cc1, .slice al1 lev1.length cl1, .int .i64 code1, .int .i64 env1])])) => implRecIts 61 #[] addI items0 items1 ai0 ai1 ci0 ci1 lo hi items0.length items1.length W (hI0.below hH.1 hhi) (hI1.below hH.1 hhi) (Nat.le_trans hhi hH.1.size) rfl rfl ma mb (by kernel_rfl)
        (fun i j W' hi' hj' hb' => implAdd (items0.getD i noI) (items1.getD j noI) W' (XA i hi').t0 (XB j hj').t0))
      have CRN := Lib.hid (fun (W : World) (hH : HeldC w W ([(w.heap.size, 31, #[.int .i64 k0, .slice ai0 items0.length ci0, .slice ap0 parts0.length cp0, .slice an0 names0.length cn0, .slice ac0 cls0.length cc0, .slice al0 lev0.length cl0, .int .i64 code0, .int .i64 env0]), ((w.heap.size + 1), 31, #[.int .i64 k1, .slice ai1 items1.length ci1, .slice ap1 parts1.length cp1, .slice an1 names1.length cn1, .slice ac1 cls1.length cc1, .slice al1 lev1.length cl1, .int .i64 code1, .int .i64 env1])])) => implRecNames k0 names0 ai0 ap0 an0 ac0 al0 items0.length ci0 parts0.length cp0 cn0 cls0.length cc0 lev0.length cl0 code0 env0 k1 names1 ai1 ap1 an1 ac1 al1 items1.length ci1 parts1.length cp1 cn1 cls1.length cc1 lev1.length cl1 code1 env1 lo hi W (hN0.below hH.1 hhi) (hN1.below hH.1 hhi) (Nat.le_trans hhi hH.1.size) ln0 ln1 li0 li1)
      go_upto_region 5 with (fail)
      have KR4 := KR
      have H := Lib.hid (show HeldC w w4 ([(w.heap.size, 31, #[.int .i64 k0, .slice ai0 items0.length ci0, .slice ap0 parts0.length cp0, .slice an0 names0.length cn0, .slice ac0 cls0.length cc0, .slice al0 lev0.length cl0, .int .i64 code0, .int .i64 env0]), ((w.heap.size + 1), 31, #[.int .i64 k1, .slice ai1 items1.length ci1, .slice ap1 parts1.length cp1, .slice an1 names1.length cn1, .slice ac1 cls1.length cc1, .slice al1 lev1.length cl1, .int .i64 code1, .int .i64 env1])]) from heldC_cons (heldC_cons ⟨B4.out, (fun _ h => by cases h)⟩ KB.out) KA.out)
      refine run_region (ops := (opsOf Tryz.f19 5)) (S := fun w' => HeldC w w' ([(w.heap.size, 31, #[.int .i64 k0, .slice ai0 items0.length ci0, .slice ap0 parts0.length cp0, .slice an0 names0.length cn0, .slice ac0 cls0.length cc0, .slice al0 lev0.length cl0, .int .i64 code0, .int .i64 env0]), ((w.heap.size + 1), 31, #[.int .i64 k1, .slice ai1 items1.length ci1, .slice ap1 parts1.length cp1, .slice an1 names1.length cn1, .slice ac1 cls1.length cc1, .slice al1 lev1.length cl1, .int .i64 code1, .int .i64 env1])])) [(0, true), (1, true), (2, true), (3, true), (4, true), (6, true), (7, true), (5, false), (8, false), (9, false), (10, false), (11, true)] (by kernel_rfl) (by kernel_rfl) (by kernel_rfl) (by kernel_rfl) (by kernel_rfl) (fun _ _ _ _ _ h => h) (heldC_drew H.out) ?_
      have H := Lib.hid (heldC_drew H.out)
      have KR := Lib.hid (blk_below (below_drew' (Below.refl _ _)) KR.out)
      refine runC_partV (b := w.heap.size) (by kernel_rfl) (show opAt (opsOf Tryz.f19 5) 0 = some (some 25, .fieldAddr 31 (.tmp 4) 1, none) from by kernel_rfl) (by kernel_rfl) (by kernel_rfl) (by kernel_rfl) ?_
      refine runC_cell (b := w.heap.size) (j := 1) (v := .slice ai0 items0.length ci0) load_its (show opAt (opsOf Tryz.f19 5) 1 = some (some 26, .load 28 (.tmp 25), none) from by kernel_rfl) (by kernel_rfl) (by kernel_rfl) (by kernel_rfl) (List.Mem.head _) rfl ?_
      refine runC_partV (b := (w.heap.size + 1)) (by kernel_rfl) (show opAt (opsOf Tryz.f19 5) 2 = some (some 27, .fieldAddr 31 (.tmp 5) 1, none) from by kernel_rfl) (by kernel_rfl) (by kernel_rfl) (by kernel_rfl) ?_
      refine runC_cell (b := (w.heap.size + 1)) (j := 1) (v := .slice ai1 items1.length ci1) load_its (show opAt (opsOf Tryz.f19 5) 3 = some (some 28, .load 28 (.tmp 27), none) from by kernel_rfl) (by kernel_rfl) (by kernel_rfl) (by kernel_rfl) (List.Mem.tail _ (List.Mem.head _)) rfl ?_
      refine run_mov (v := .func (.func 61) #[] #[]) (show opAt (opsOf Tryz.f19 5) 4 = some (some 29, .move (.tmp 8), none) from by kernel_rfl) (by kernel_rfl) (by kernel_rfl) (by kernel_rfl) ?_
      refine runC_vec (b := w.heap.size) (show opAt (opsOf Tryz.f19 5) 6 = some (some 31, .load 31 (.tmp 4), none) from by kernel_rfl) (by kernel_rfl) (by kernel_rfl) (by kernel_rfl) (List.Mem.head _) ?_
      refine runC_vec (b := (w.heap.size + 1)) (show opAt (opsOf Tryz.f19 5) 7 = some (some 32, .load 31 (.tmp 5), none) from by kernel_rfl) (by kernel_rfl) (by kernel_rfl) (by kernel_rfl) (List.Mem.tail _ (List.Mem.head _)) ?_
      refine run_call (args := [.slice ai0 items0.length ci0, .slice ai1 items1.length ci1, .func (.func 61) #[] #[]]) (show opAt (opsOf Tryz.f19 5) 5 = some (some 30, .call { callee := .value (.func 43), args := [(.tmp 26), (.tmp 28), (.tmp 29)].toArray, argTypes := [28, 28, 66].toArray }, none) from by kernel_rfl) (by kernel_rfl) (by kernel_rfl) (by kernel_rfl) (by kernel_rfl) ?_
      refine (CRI.out _ H.out).mono ?_
      rintro en rw1 ⟨vi, rfl, hit⟩
      obtain ⟨si, ni, ci, rfl⟩ := hit.form
      have OI := Lib.hid (own_of_its hit.row)
      have IR0 := Lib.hid hit.below.size
      have KR := Lib.hid (blk_below hit.below KR.out)
      refine ⟨_, rfl, heldC_call H.out hit.below, ?_⟩
      have H := Lib.hid (heldC_call H.out hit.below)
      clear hit
      refine run_call (args := [.agg #[.int .i64 k0, .slice ai0 items0.length ci0, .slice ap0 parts0.length cp0, .slice an0 names0.length cn0, .slice ac0 cls0.length cc0, .slice al0 lev0.length cl0, .int .i64 code0, .int .i64 env0], .agg #[.int .i64 k1, .slice ai1 items1.length ci1, .slice ap1 parts1.length cp1, .slice an1 names1.length cn1, .slice ac1 cls1.length cc1, .slice al1 lev1.length cl1, .int .i64 code1, .int .i64 env1]]) (show opAt (opsOf Tryz.f19 5) 8 = some (some 33, .call { callee := .value (.func 44), args := [(.tmp 31), (.tmp 32)].toArray, argTypes := [31, 31].toArray }, none) from by kernel_rfl) (by kernel_rfl) (by kernel_rfl) (by kernel_rfl) (by kernel_rfl) ?_
      refine (CRN.out _ H.out).mono ?_
      rintro en rw2 ⟨⟨vn, rfl, hcp⟩, hb⟩
      have CP := Lib.hid hcp
      obtain ⟨sn, nn, cn, rfl⟩ : ∃ s n c, vn = .slice s n c := by obtain ⟨s, c, F, e, _⟩ := hcp; exact ⟨s, _, c, e⟩
      refine ⟨_, rfl, heldC_call H.out hb, ?_⟩
      have BN := Lib.hid hb
      have KR := Lib.hid (blk_below hb KR.out)
      have H := Lib.hid (heldC_call H.out hb)
      clear hcp hb
      refine run_bldK (k := 2) (sa := si) (n := ni) (m := ci) (sb := sn) (n' := nn) (m' := cn) (show opAt (opsOf Tryz.f19 5) 9 = some (some 34, .build 31 #[(0, .const (.int .i64 2)), (1, .tmp 30), (3, .tmp 33)], none) from by kernel_rfl) (by kernel_rfl) (by kernel_rfl) (by kernel_rfl) (by kernel_rfl) H.out ?_
      refine run_store (w' := rw2.setRow (w.heap.size + 1 + 1) #[.int .i64 2, .slice si ni ci, .slice none 0 0, .slice sn nn cn, .slice none 0 0, .slice none 0 0, .int .i64 0, .int .i64 0]) (show opAt (opsOf Tryz.f19 5) 10 = some (none, .store 31 (.tmp 6) (.tmp 34), none) from by kernel_rfl) (by kernel_rfl) (by kernel_rfl) (by kernel_rfl) (store_vec8 KR.out (by simp [Value.oneCell'])) ⟨below_row H.out.1 (show w.heap.size ≤ w.heap.size + 1 + 1 by omega) _, fun q hq => row_old (H.out.2 q hq) (by
        rcases List.mem_cons.1 hq with rfl | hq
        · simp only; omega
        · obtain rfl := List.mem_singleton.1 hq
          simp only; omega)⟩ ?_
      refine run_asg (v := .string ⟨#[]⟩) (show opAt (opsOf Tryz.f19 5) 11 = some (some 7, .assign (.const (.string ⟨#[]⟩)), none) from by kernel_rfl) (by kernel_rfl) (by kernel_rfl) (by kernel_rfl) ?_
      refine run_done ?_
      simp only [putAll, Act.put, List.setIfInBounds_toArray, List.set_cons_zero, List.set_cons_succ]
      have XF := Lib.hid (show ariV (some 0) VA VB = mkN 2 (itF (fun i => addI (items0.getD (i % items0.length) noI) (items1.getD (i % items1.length) noI)) (recN items0.length items1.length)) (namesR (recN items0.length items1.length) names0 names1) from by
        have la : lenV k0 items0.length parts0.length = items0.length := len_counts (by rw [hVA]; exact hv.1) (by rw [hVA]; exact hcc.1)
        have lb : lenV k1 items1.length parts1.length = items1.length := len_counts (by rw [hVB]; exact hv.2) (by rw [hVB]; exact hcc.2)
        have hN : (lgcN VA VB).toNat = recN items0.length items1.length := by rw [← EA.out, ← EB.out]; exact size_rec hnn
        have nA : namesV VA = names0 := by rw [← hVA]; rfl
        have nB : namesV VB = names1 := by rw [← hVB]; rfl
        have iA : itemsV VA = items0 := by rw [← hVA]; rfl
        have iB : itemsV VB = items1 := by rw [← hVB]; rfl
        rw [XV.out.1, hN, EA.out, EB.out, nA, nB, iA, iB, names_same (by have := FA.h_names; rw [la] at this; exact this) (by have := FB.h_names; rw [lb] at this; exact this)]
        rfl)
      obtain ⟨a', c', Fi, e, o1, n1, r1, c1⟩ := OI.out
      obtain ⟨na, nc, Fn, e2, o2, n2, r2, c2⟩ := CP.out
      simp only [Value.slice.injEq] at e e2
      obtain ⟨rfl, rfl, rfl⟩ := e
      obtain ⟨rfl, rfl, rfl⟩ := e2
      have FIN := Lib.hid (own_pair (k := 2) (o1.kept (fun b hb => BN.out.block b (r1 b hb).2)) n1 r1 c1 o2 n2 r2 c2 IR0.out BN.out.size)
      have hr5 : w.heap.size + 1 + 1 < w4.heap.size := (Array.getElem?_eq_some_iff.1 KR4.out).1
      go_wp2
      rw [EI.out, XF.out, XS.out]
      exact vec_ret0S rfl rfl rfl rfl (row_set KR.out) ⟨_, rfl, (FIN.out.row (show w.heap.size + 1 + 1 < w4.heap.size from hr5)).wide (show w.heap.size ≤ w4.heap.size by omega) (row_size _ _ _), below_row H.out.1 (show w.heap.size ≤ w.heap.size + 1 + 1 by omega) _⟩
    · have XX := Lib.hid (ariV_no (oi := some 0) (a := VA) (b := VB) hp)
      obtain ⟨R, hR⟩ : ∃ R, prbB true VA VB nonNumB = R := ⟨_, rfl⟩
      rw [hR] at hp XS ⊢
      have hRb : (R.toList == []) = false := by have h := str_not hp; rw [ByteArray.toList_eq ⟨#[]⟩] at h; exact h
      clear hp hR
      obtain ⟨z0, z1, z2, z3, z4, z5, z6, z7⟩ := vec8 KR.out
      obtain ⟨f0, f1, f2, f3, f4, f5, f6, f7⟩ := free8 KR.out
      go_wp2
      rw [EI.out, XX.out, XS.out]
      exact vec_endS rfl rfl rfl rfl KR.out (zeroS _ w _ (put8_below B4.out (show w.heap.size ≤ w.heap.size + 1 + 1 by omega)))
  ·
    by_cases h_1 : op = opA 1
    · have EI := Lib.hid (idx_1 h_0 h_1)
      obtain rfl : op = ⟨#[45]⟩ := h_1
      clear h_0
      have lk := lookA_1 MP.out
      have XS := Lib.hid (show ariS (some 1) VA VB = prbB true VA VB nonNumB from ariS_prb (some 1) VA VB)
      go_wp2_with fail
      refine (PB.out w2 B2.out true).mono ?_
      rintro e w4 ⟨rfl, b⟩
      have B4 := Lib.hid (below_then B2.out b)
      have KA := Lib.hid (blk_below b KA.out)
      have KB := Lib.hid (blk_below b KB.out)
      have KR := Lib.hid (blk_below b KR.out)
      clear b ka0 ka1 ka2 ka3 ka4 ka5 ka6 ka7 kb0 kb1 kb2 kb3 kb4 kb5 kb6 kb7 lk
      by_cases hp : prbB true VA VB nonNumB = ⟨#[]⟩
      · have OK := Lib.hid (prb_ok (u := nonNumB) (by decide) hp)
        rw [hp]
        rw [hp] at XS
        obtain ⟨hv, hcc, hnn⟩ := OK.out
        have XV := Lib.hid (ari_yes (i := 1) hv hcc hnn)
        have EA := Lib.hid (show itL VA = items0.length by rw [← hVA]; rfl)
        have EB := Lib.hid (show itL VB = items1.length by rw [← hVB]; rfl)
        have ma : items0.length ≤ 40 := by rw [← EA.out]; exact itL_le hv.1 hcc.1
        have mb : items1.length ≤ 40 := by rw [← EB.out]; exact itL_le hv.2 hcc.2
        have XA : ∀ i, i < items0.length → NumIt (items0.getD i noI) := fun i hi => num_at (by rw [hVA]; exact hv.1) (by rw [hVA]; exact hcc.1) hi
        have XB : ∀ i, i < items1.length → NumIt (items1.getD i noI) := fun i hi => num_at (by rw [hVB]; exact hv.2) (by rw [hVB]; exact hcc.2) hi
        have FA : FlatOk k0 items0 parts0.length names0 cls0 lev0 code0 env0 := by have h := hv.1; rw [← hVA] at h; exact h.1.flat
        have FB : FlatOk k1 items1 parts1.length names1 cls1 lev1 code1 env1 := by have h := hv.2; rw [← hVB] at h; exact h.1.flat
        have CRI := Lib.hid (fun (W : World) (hH : HeldC w W ([(w.heap.size, 31, #[.int .i64 k0, .slice ai0 items0.length ci0, .slice ap0 parts0.length cp0, .slice an0 names0.length cn0, .slice ac0 cls0.length cc0, .slice al0 lev0.length cl0, .int .i64 code0, .int .i64 env0]), ((w.heap.size + 1), 31, #[.int .i64 k1, .slice ai1 items1.length ci1, .slice ap1 parts1.length cp1, .slice an1 names1.length cn1, .slice ac1 cls1.length cc1, .slice al1 lev1.length cl1, .int .i64 code1, .int .i64 env1])])) => implRecIts 62 #[] subI items0 items1 ai0 ai1 ci0 ci1 lo hi items0.length items1.length W (hI0.below hH.1 hhi) (hI1.below hH.1 hhi) (Nat.le_trans hhi hH.1.size) rfl rfl ma mb (by kernel_rfl)
          (fun i j W' hi' hj' hb' => implSub (items0.getD i noI) (items1.getD j noI) W' (XA i hi').t0 (XB j hj').t0))
        have CRN := Lib.hid (fun (W : World) (hH : HeldC w W ([(w.heap.size, 31, #[.int .i64 k0, .slice ai0 items0.length ci0, .slice ap0 parts0.length cp0, .slice an0 names0.length cn0, .slice ac0 cls0.length cc0, .slice al0 lev0.length cl0, .int .i64 code0, .int .i64 env0]), ((w.heap.size + 1), 31, #[.int .i64 k1, .slice ai1 items1.length ci1, .slice ap1 parts1.length cp1, .slice an1 names1.length cn1, .slice ac1 cls1.length cc1, .slice al1 lev1.length cl1, .int .i64 code1, .int .i64 env1])])) => implRecNames k0 names0 ai0 ap0 an0 ac0 al0 items0.length ci0 parts0.length cp0 cn0 cls0.length cc0 lev0.length cl0 code0 env0 k1 names1 ai1 ap1 an1 ac1 al1 items1.length ci1 parts1.length cp1 cn1 cls1.length cc1 lev1.length cl1 code1 env1 lo hi W (hN0.below hH.1 hhi) (hN1.below hH.1 hhi) (Nat.le_trans hhi hH.1.size) ln0 ln1 li0 li1)
        go_upto_region 5 with (fail)
        have KR4 := KR
        have H := Lib.hid (show HeldC w w4 ([(w.heap.size, 31, #[.int .i64 k0, .slice ai0 items0.length ci0, .slice ap0 parts0.length cp0, .slice an0 names0.length cn0, .slice ac0 cls0.length cc0, .slice al0 lev0.length cl0, .int .i64 code0, .int .i64 env0]), ((w.heap.size + 1), 31, #[.int .i64 k1, .slice ai1 items1.length ci1, .slice ap1 parts1.length cp1, .slice an1 names1.length cn1, .slice ac1 cls1.length cc1, .slice al1 lev1.length cl1, .int .i64 code1, .int .i64 env1])]) from heldC_cons (heldC_cons ⟨B4.out, (fun _ h => by cases h)⟩ KB.out) KA.out)
        refine run_region (ops := (opsOf Tryz.f19 5)) (S := fun w' => HeldC w w' ([(w.heap.size, 31, #[.int .i64 k0, .slice ai0 items0.length ci0, .slice ap0 parts0.length cp0, .slice an0 names0.length cn0, .slice ac0 cls0.length cc0, .slice al0 lev0.length cl0, .int .i64 code0, .int .i64 env0]), ((w.heap.size + 1), 31, #[.int .i64 k1, .slice ai1 items1.length ci1, .slice ap1 parts1.length cp1, .slice an1 names1.length cn1, .slice ac1 cls1.length cc1, .slice al1 lev1.length cl1, .int .i64 code1, .int .i64 env1])])) [(0, true), (1, true), (2, true), (3, true), (4, true), (6, true), (7, true), (5, false), (8, false), (9, false), (10, false), (11, true)] (by kernel_rfl) (by kernel_rfl) (by kernel_rfl) (by kernel_rfl) (by kernel_rfl) (fun _ _ _ _ _ h => h) (heldC_drew H.out) ?_
        have H := Lib.hid (heldC_drew H.out)
        have KR := Lib.hid (blk_below (below_drew' (Below.refl _ _)) KR.out)
        refine runC_partV (b := w.heap.size) (by kernel_rfl) (show opAt (opsOf Tryz.f19 5) 0 = some (some 25, .fieldAddr 31 (.tmp 4) 1, none) from by kernel_rfl) (by kernel_rfl) (by kernel_rfl) (by kernel_rfl) ?_
        refine runC_cell (b := w.heap.size) (j := 1) (v := .slice ai0 items0.length ci0) load_its (show opAt (opsOf Tryz.f19 5) 1 = some (some 26, .load 28 (.tmp 25), none) from by kernel_rfl) (by kernel_rfl) (by kernel_rfl) (by kernel_rfl) (List.Mem.head _) rfl ?_
        refine runC_partV (b := (w.heap.size + 1)) (by kernel_rfl) (show opAt (opsOf Tryz.f19 5) 2 = some (some 27, .fieldAddr 31 (.tmp 5) 1, none) from by kernel_rfl) (by kernel_rfl) (by kernel_rfl) (by kernel_rfl) ?_
        refine runC_cell (b := (w.heap.size + 1)) (j := 1) (v := .slice ai1 items1.length ci1) load_its (show opAt (opsOf Tryz.f19 5) 3 = some (some 28, .load 28 (.tmp 27), none) from by kernel_rfl) (by kernel_rfl) (by kernel_rfl) (by kernel_rfl) (List.Mem.tail _ (List.Mem.head _)) rfl ?_
        refine run_mov (v := .func (.func 62) #[] #[]) (show opAt (opsOf Tryz.f19 5) 4 = some (some 29, .move (.tmp 8), none) from by kernel_rfl) (by kernel_rfl) (by kernel_rfl) (by kernel_rfl) ?_
        refine runC_vec (b := w.heap.size) (show opAt (opsOf Tryz.f19 5) 6 = some (some 31, .load 31 (.tmp 4), none) from by kernel_rfl) (by kernel_rfl) (by kernel_rfl) (by kernel_rfl) (List.Mem.head _) ?_
        refine runC_vec (b := (w.heap.size + 1)) (show opAt (opsOf Tryz.f19 5) 7 = some (some 32, .load 31 (.tmp 5), none) from by kernel_rfl) (by kernel_rfl) (by kernel_rfl) (by kernel_rfl) (List.Mem.tail _ (List.Mem.head _)) ?_
        refine run_call (args := [.slice ai0 items0.length ci0, .slice ai1 items1.length ci1, .func (.func 62) #[] #[]]) (show opAt (opsOf Tryz.f19 5) 5 = some (some 30, .call { callee := .value (.func 43), args := [(.tmp 26), (.tmp 28), (.tmp 29)].toArray, argTypes := [28, 28, 66].toArray }, none) from by kernel_rfl) (by kernel_rfl) (by kernel_rfl) (by kernel_rfl) (by kernel_rfl) ?_
        refine (CRI.out _ H.out).mono ?_
        rintro en rw1 ⟨vi, rfl, hit⟩
        obtain ⟨si, ni, ci, rfl⟩ := hit.form
        have OI := Lib.hid (own_of_its hit.row)
        have IR0 := Lib.hid hit.below.size
        have KR := Lib.hid (blk_below hit.below KR.out)
        refine ⟨_, rfl, heldC_call H.out hit.below, ?_⟩
        have H := Lib.hid (heldC_call H.out hit.below)
        clear hit
        refine run_call (args := [.agg #[.int .i64 k0, .slice ai0 items0.length ci0, .slice ap0 parts0.length cp0, .slice an0 names0.length cn0, .slice ac0 cls0.length cc0, .slice al0 lev0.length cl0, .int .i64 code0, .int .i64 env0], .agg #[.int .i64 k1, .slice ai1 items1.length ci1, .slice ap1 parts1.length cp1, .slice an1 names1.length cn1, .slice ac1 cls1.length cc1, .slice al1 lev1.length cl1, .int .i64 code1, .int .i64 env1]]) (show opAt (opsOf Tryz.f19 5) 8 = some (some 33, .call { callee := .value (.func 44), args := [(.tmp 31), (.tmp 32)].toArray, argTypes := [31, 31].toArray }, none) from by kernel_rfl) (by kernel_rfl) (by kernel_rfl) (by kernel_rfl) (by kernel_rfl) ?_
        refine (CRN.out _ H.out).mono ?_
        rintro en rw2 ⟨⟨vn, rfl, hcp⟩, hb⟩
        have CP := Lib.hid hcp
        obtain ⟨sn, nn, cn, rfl⟩ : ∃ s n c, vn = .slice s n c := by obtain ⟨s, c, F, e, _⟩ := hcp; exact ⟨s, _, c, e⟩
        refine ⟨_, rfl, heldC_call H.out hb, ?_⟩
        have BN := Lib.hid hb
        have KR := Lib.hid (blk_below hb KR.out)
        have H := Lib.hid (heldC_call H.out hb)
        clear hcp hb
        refine run_bldK (k := 2) (sa := si) (n := ni) (m := ci) (sb := sn) (n' := nn) (m' := cn) (show opAt (opsOf Tryz.f19 5) 9 = some (some 34, .build 31 #[(0, .const (.int .i64 2)), (1, .tmp 30), (3, .tmp 33)], none) from by kernel_rfl) (by kernel_rfl) (by kernel_rfl) (by kernel_rfl) (by kernel_rfl) H.out ?_
        refine run_store (w' := rw2.setRow (w.heap.size + 1 + 1) #[.int .i64 2, .slice si ni ci, .slice none 0 0, .slice sn nn cn, .slice none 0 0, .slice none 0 0, .int .i64 0, .int .i64 0]) (show opAt (opsOf Tryz.f19 5) 10 = some (none, .store 31 (.tmp 6) (.tmp 34), none) from by kernel_rfl) (by kernel_rfl) (by kernel_rfl) (by kernel_rfl) (store_vec8 KR.out (by simp [Value.oneCell'])) ⟨below_row H.out.1 (show w.heap.size ≤ w.heap.size + 1 + 1 by omega) _, fun q hq => row_old (H.out.2 q hq) (by
          rcases List.mem_cons.1 hq with rfl | hq
          · simp only; omega
          · obtain rfl := List.mem_singleton.1 hq
            simp only; omega)⟩ ?_
        refine run_asg (v := .string ⟨#[]⟩) (show opAt (opsOf Tryz.f19 5) 11 = some (some 7, .assign (.const (.string ⟨#[]⟩)), none) from by kernel_rfl) (by kernel_rfl) (by kernel_rfl) (by kernel_rfl) ?_
        refine run_done ?_
        simp only [putAll, Act.put, List.setIfInBounds_toArray, List.set_cons_zero, List.set_cons_succ]
        have XF := Lib.hid (show ariV (some 1) VA VB = mkN 2 (itF (fun i => subI (items0.getD (i % items0.length) noI) (items1.getD (i % items1.length) noI)) (recN items0.length items1.length)) (namesR (recN items0.length items1.length) names0 names1) from by
          have la : lenV k0 items0.length parts0.length = items0.length := len_counts (by rw [hVA]; exact hv.1) (by rw [hVA]; exact hcc.1)
          have lb : lenV k1 items1.length parts1.length = items1.length := len_counts (by rw [hVB]; exact hv.2) (by rw [hVB]; exact hcc.2)
          have hN : (lgcN VA VB).toNat = recN items0.length items1.length := by rw [← EA.out, ← EB.out]; exact size_rec hnn
          have nA : namesV VA = names0 := by rw [← hVA]; rfl
          have nB : namesV VB = names1 := by rw [← hVB]; rfl
          have iA : itemsV VA = items0 := by rw [← hVA]; rfl
          have iB : itemsV VB = items1 := by rw [← hVB]; rfl
          rw [XV.out.1, hN, EA.out, EB.out, nA, nB, iA, iB, names_same (by have := FA.h_names; rw [la] at this; exact this) (by have := FB.h_names; rw [lb] at this; exact this)]
          rfl)
        obtain ⟨a', c', Fi, e, o1, n1, r1, c1⟩ := OI.out
        obtain ⟨na, nc, Fn, e2, o2, n2, r2, c2⟩ := CP.out
        simp only [Value.slice.injEq] at e e2
        obtain ⟨rfl, rfl, rfl⟩ := e
        obtain ⟨rfl, rfl, rfl⟩ := e2
        have FIN := Lib.hid (own_pair (k := 2) (o1.kept (fun b hb => BN.out.block b (r1 b hb).2)) n1 r1 c1 o2 n2 r2 c2 IR0.out BN.out.size)
        have hr5 : w.heap.size + 1 + 1 < w4.heap.size := (Array.getElem?_eq_some_iff.1 KR4.out).1
        go_wp2
        rw [EI.out, XF.out, XS.out]
        exact vec_ret0S rfl rfl rfl rfl (row_set KR.out) ⟨_, rfl, (FIN.out.row (show w.heap.size + 1 + 1 < w4.heap.size from hr5)).wide (show w.heap.size ≤ w4.heap.size by omega) (row_size _ _ _), below_row H.out.1 (show w.heap.size ≤ w.heap.size + 1 + 1 by omega) _⟩
      · have XX := Lib.hid (ariV_no (oi := some 1) (a := VA) (b := VB) hp)
        obtain ⟨R, hR⟩ : ∃ R, prbB true VA VB nonNumB = R := ⟨_, rfl⟩
        rw [hR] at hp XS ⊢
        have hRb : (R.toList == []) = false := by have h := str_not hp; rw [ByteArray.toList_eq ⟨#[]⟩] at h; exact h
        clear hp hR
        obtain ⟨z0, z1, z2, z3, z4, z5, z6, z7⟩ := vec8 KR.out
        obtain ⟨f0, f1, f2, f3, f4, f5, f6, f7⟩ := free8 KR.out
        go_wp2
        rw [EI.out, XX.out, XS.out]
        exact vec_endS rfl rfl rfl rfl KR.out (zeroS _ w _ (put8_below B4.out (show w.heap.size ≤ w.heap.size + 1 + 1 by omega)))
    ·
      by_cases h_2 : op = opA 2
      · have EI := Lib.hid (idx_2 h_0 h_1 h_2)
        obtain rfl : op = ⟨#[42]⟩ := h_2
        clear h_0 h_1
        have lk := lookA_2 MP.out
        have XS := Lib.hid (show ariS (some 2) VA VB = prbB true VA VB nonNumB from ariS_prb (some 2) VA VB)
        go_wp2_with fail
        refine (PB.out w2 B2.out true).mono ?_
        rintro e w4 ⟨rfl, b⟩
        have B4 := Lib.hid (below_then B2.out b)
        have KA := Lib.hid (blk_below b KA.out)
        have KB := Lib.hid (blk_below b KB.out)
        have KR := Lib.hid (blk_below b KR.out)
        clear b ka0 ka1 ka2 ka3 ka4 ka5 ka6 ka7 kb0 kb1 kb2 kb3 kb4 kb5 kb6 kb7 lk
        by_cases hp : prbB true VA VB nonNumB = ⟨#[]⟩
        · have OK := Lib.hid (prb_ok (u := nonNumB) (by decide) hp)
          rw [hp]
          rw [hp] at XS
          obtain ⟨hv, hcc, hnn⟩ := OK.out
          have XV := Lib.hid (ari_yes (i := 2) hv hcc hnn)
          have EA := Lib.hid (show itL VA = items0.length by rw [← hVA]; rfl)
          have EB := Lib.hid (show itL VB = items1.length by rw [← hVB]; rfl)
          have ma : items0.length ≤ 40 := by rw [← EA.out]; exact itL_le hv.1 hcc.1
          have mb : items1.length ≤ 40 := by rw [← EB.out]; exact itL_le hv.2 hcc.2
          have XA : ∀ i, i < items0.length → NumIt (items0.getD i noI) := fun i hi => num_at (by rw [hVA]; exact hv.1) (by rw [hVA]; exact hcc.1) hi
          have XB : ∀ i, i < items1.length → NumIt (items1.getD i noI) := fun i hi => num_at (by rw [hVB]; exact hv.2) (by rw [hVB]; exact hcc.2) hi
          have FA : FlatOk k0 items0 parts0.length names0 cls0 lev0 code0 env0 := by have h := hv.1; rw [← hVA] at h; exact h.1.flat
          have FB : FlatOk k1 items1 parts1.length names1 cls1 lev1 code1 env1 := by have h := hv.2; rw [← hVB] at h; exact h.1.flat
          have CRI := Lib.hid (fun (W : World) (hH : HeldC w W ([(w.heap.size, 31, #[.int .i64 k0, .slice ai0 items0.length ci0, .slice ap0 parts0.length cp0, .slice an0 names0.length cn0, .slice ac0 cls0.length cc0, .slice al0 lev0.length cl0, .int .i64 code0, .int .i64 env0]), ((w.heap.size + 1), 31, #[.int .i64 k1, .slice ai1 items1.length ci1, .slice ap1 parts1.length cp1, .slice an1 names1.length cn1, .slice ac1 cls1.length cc1, .slice al1 lev1.length cl1, .int .i64 code1, .int .i64 env1])])) => implRecIts 63 #[] mulI items0 items1 ai0 ai1 ci0 ci1 lo hi items0.length items1.length W (hI0.below hH.1 hhi) (hI1.below hH.1 hhi) (Nat.le_trans hhi hH.1.size) rfl rfl ma mb (by kernel_rfl)
            (fun i j W' hi' hj' hb' => implMul (items0.getD i noI) (items1.getD j noI) W' (XA i hi').t0 (XB j hj').t0))
          have CRN := Lib.hid (fun (W : World) (hH : HeldC w W ([(w.heap.size, 31, #[.int .i64 k0, .slice ai0 items0.length ci0, .slice ap0 parts0.length cp0, .slice an0 names0.length cn0, .slice ac0 cls0.length cc0, .slice al0 lev0.length cl0, .int .i64 code0, .int .i64 env0]), ((w.heap.size + 1), 31, #[.int .i64 k1, .slice ai1 items1.length ci1, .slice ap1 parts1.length cp1, .slice an1 names1.length cn1, .slice ac1 cls1.length cc1, .slice al1 lev1.length cl1, .int .i64 code1, .int .i64 env1])])) => implRecNames k0 names0 ai0 ap0 an0 ac0 al0 items0.length ci0 parts0.length cp0 cn0 cls0.length cc0 lev0.length cl0 code0 env0 k1 names1 ai1 ap1 an1 ac1 al1 items1.length ci1 parts1.length cp1 cn1 cls1.length cc1 lev1.length cl1 code1 env1 lo hi W (hN0.below hH.1 hhi) (hN1.below hH.1 hhi) (Nat.le_trans hhi hH.1.size) ln0 ln1 li0 li1)
          go_upto_region 5 with (fail)
          have KR4 := KR
          have H := Lib.hid (show HeldC w w4 ([(w.heap.size, 31, #[.int .i64 k0, .slice ai0 items0.length ci0, .slice ap0 parts0.length cp0, .slice an0 names0.length cn0, .slice ac0 cls0.length cc0, .slice al0 lev0.length cl0, .int .i64 code0, .int .i64 env0]), ((w.heap.size + 1), 31, #[.int .i64 k1, .slice ai1 items1.length ci1, .slice ap1 parts1.length cp1, .slice an1 names1.length cn1, .slice ac1 cls1.length cc1, .slice al1 lev1.length cl1, .int .i64 code1, .int .i64 env1])]) from heldC_cons (heldC_cons ⟨B4.out, (fun _ h => by cases h)⟩ KB.out) KA.out)
          refine run_region (ops := (opsOf Tryz.f19 5)) (S := fun w' => HeldC w w' ([(w.heap.size, 31, #[.int .i64 k0, .slice ai0 items0.length ci0, .slice ap0 parts0.length cp0, .slice an0 names0.length cn0, .slice ac0 cls0.length cc0, .slice al0 lev0.length cl0, .int .i64 code0, .int .i64 env0]), ((w.heap.size + 1), 31, #[.int .i64 k1, .slice ai1 items1.length ci1, .slice ap1 parts1.length cp1, .slice an1 names1.length cn1, .slice ac1 cls1.length cc1, .slice al1 lev1.length cl1, .int .i64 code1, .int .i64 env1])])) [(0, true), (1, true), (2, true), (3, true), (4, true), (6, true), (7, true), (5, false), (8, false), (9, false), (10, false), (11, true)] (by kernel_rfl) (by kernel_rfl) (by kernel_rfl) (by kernel_rfl) (by kernel_rfl) (fun _ _ _ _ _ h => h) (heldC_drew H.out) ?_
          have H := Lib.hid (heldC_drew H.out)
          have KR := Lib.hid (blk_below (below_drew' (Below.refl _ _)) KR.out)
          refine runC_partV (b := w.heap.size) (by kernel_rfl) (show opAt (opsOf Tryz.f19 5) 0 = some (some 25, .fieldAddr 31 (.tmp 4) 1, none) from by kernel_rfl) (by kernel_rfl) (by kernel_rfl) (by kernel_rfl) ?_
          refine runC_cell (b := w.heap.size) (j := 1) (v := .slice ai0 items0.length ci0) load_its (show opAt (opsOf Tryz.f19 5) 1 = some (some 26, .load 28 (.tmp 25), none) from by kernel_rfl) (by kernel_rfl) (by kernel_rfl) (by kernel_rfl) (List.Mem.head _) rfl ?_
          refine runC_partV (b := (w.heap.size + 1)) (by kernel_rfl) (show opAt (opsOf Tryz.f19 5) 2 = some (some 27, .fieldAddr 31 (.tmp 5) 1, none) from by kernel_rfl) (by kernel_rfl) (by kernel_rfl) (by kernel_rfl) ?_
          refine runC_cell (b := (w.heap.size + 1)) (j := 1) (v := .slice ai1 items1.length ci1) load_its (show opAt (opsOf Tryz.f19 5) 3 = some (some 28, .load 28 (.tmp 27), none) from by kernel_rfl) (by kernel_rfl) (by kernel_rfl) (by kernel_rfl) (List.Mem.tail _ (List.Mem.head _)) rfl ?_
          refine run_mov (v := .func (.func 63) #[] #[]) (show opAt (opsOf Tryz.f19 5) 4 = some (some 29, .move (.tmp 8), none) from by kernel_rfl) (by kernel_rfl) (by kernel_rfl) (by kernel_rfl) ?_
          refine runC_vec (b := w.heap.size) (show opAt (opsOf Tryz.f19 5) 6 = some (some 31, .load 31 (.tmp 4), none) from by kernel_rfl) (by kernel_rfl) (by kernel_rfl) (by kernel_rfl) (List.Mem.head _) ?_
          refine runC_vec (b := (w.heap.size + 1)) (show opAt (opsOf Tryz.f19 5) 7 = some (some 32, .load 31 (.tmp 5), none) from by kernel_rfl) (by kernel_rfl) (by kernel_rfl) (by kernel_rfl) (List.Mem.tail _ (List.Mem.head _)) ?_
          refine run_call (args := [.slice ai0 items0.length ci0, .slice ai1 items1.length ci1, .func (.func 63) #[] #[]]) (show opAt (opsOf Tryz.f19 5) 5 = some (some 30, .call { callee := .value (.func 43), args := [(.tmp 26), (.tmp 28), (.tmp 29)].toArray, argTypes := [28, 28, 66].toArray }, none) from by kernel_rfl) (by kernel_rfl) (by kernel_rfl) (by kernel_rfl) (by kernel_rfl) ?_
          refine (CRI.out _ H.out).mono ?_
          rintro en rw1 ⟨vi, rfl, hit⟩
          obtain ⟨si, ni, ci, rfl⟩ := hit.form
          have OI := Lib.hid (own_of_its hit.row)
          have IR0 := Lib.hid hit.below.size
          have KR := Lib.hid (blk_below hit.below KR.out)
          refine ⟨_, rfl, heldC_call H.out hit.below, ?_⟩
          have H := Lib.hid (heldC_call H.out hit.below)
          clear hit
          refine run_call (args := [.agg #[.int .i64 k0, .slice ai0 items0.length ci0, .slice ap0 parts0.length cp0, .slice an0 names0.length cn0, .slice ac0 cls0.length cc0, .slice al0 lev0.length cl0, .int .i64 code0, .int .i64 env0], .agg #[.int .i64 k1, .slice ai1 items1.length ci1, .slice ap1 parts1.length cp1, .slice an1 names1.length cn1, .slice ac1 cls1.length cc1, .slice al1 lev1.length cl1, .int .i64 code1, .int .i64 env1]]) (show opAt (opsOf Tryz.f19 5) 8 = some (some 33, .call { callee := .value (.func 44), args := [(.tmp 31), (.tmp 32)].toArray, argTypes := [31, 31].toArray }, none) from by kernel_rfl) (by kernel_rfl) (by kernel_rfl) (by kernel_rfl) (by kernel_rfl) ?_
          refine (CRN.out _ H.out).mono ?_
          rintro en rw2 ⟨⟨vn, rfl, hcp⟩, hb⟩
          have CP := Lib.hid hcp
          obtain ⟨sn, nn, cn, rfl⟩ : ∃ s n c, vn = .slice s n c := by obtain ⟨s, c, F, e, _⟩ := hcp; exact ⟨s, _, c, e⟩
          refine ⟨_, rfl, heldC_call H.out hb, ?_⟩
          have BN := Lib.hid hb
          have KR := Lib.hid (blk_below hb KR.out)
          have H := Lib.hid (heldC_call H.out hb)
          clear hcp hb
          refine run_bldK (k := 2) (sa := si) (n := ni) (m := ci) (sb := sn) (n' := nn) (m' := cn) (show opAt (opsOf Tryz.f19 5) 9 = some (some 34, .build 31 #[(0, .const (.int .i64 2)), (1, .tmp 30), (3, .tmp 33)], none) from by kernel_rfl) (by kernel_rfl) (by kernel_rfl) (by kernel_rfl) (by kernel_rfl) H.out ?_
          refine run_store (w' := rw2.setRow (w.heap.size + 1 + 1) #[.int .i64 2, .slice si ni ci, .slice none 0 0, .slice sn nn cn, .slice none 0 0, .slice none 0 0, .int .i64 0, .int .i64 0]) (show opAt (opsOf Tryz.f19 5) 10 = some (none, .store 31 (.tmp 6) (.tmp 34), none) from by kernel_rfl) (by kernel_rfl) (by kernel_rfl) (by kernel_rfl) (store_vec8 KR.out (by simp [Value.oneCell'])) ⟨below_row H.out.1 (show w.heap.size ≤ w.heap.size + 1 + 1 by omega) _, fun q hq => row_old (H.out.2 q hq) (by
            rcases List.mem_cons.1 hq with rfl | hq
            · simp only; omega
            · obtain rfl := List.mem_singleton.1 hq
              simp only; omega)⟩ ?_
          refine run_asg (v := .string ⟨#[]⟩) (show opAt (opsOf Tryz.f19 5) 11 = some (some 7, .assign (.const (.string ⟨#[]⟩)), none) from by kernel_rfl) (by kernel_rfl) (by kernel_rfl) (by kernel_rfl) ?_
          refine run_done ?_
          simp only [putAll, Act.put, List.setIfInBounds_toArray, List.set_cons_zero, List.set_cons_succ]
          have XF := Lib.hid (show ariV (some 2) VA VB = mkN 2 (itF (fun i => mulI (items0.getD (i % items0.length) noI) (items1.getD (i % items1.length) noI)) (recN items0.length items1.length)) (namesR (recN items0.length items1.length) names0 names1) from by
            have la : lenV k0 items0.length parts0.length = items0.length := len_counts (by rw [hVA]; exact hv.1) (by rw [hVA]; exact hcc.1)
            have lb : lenV k1 items1.length parts1.length = items1.length := len_counts (by rw [hVB]; exact hv.2) (by rw [hVB]; exact hcc.2)
            have hN : (lgcN VA VB).toNat = recN items0.length items1.length := by rw [← EA.out, ← EB.out]; exact size_rec hnn
            have nA : namesV VA = names0 := by rw [← hVA]; rfl
            have nB : namesV VB = names1 := by rw [← hVB]; rfl
            have iA : itemsV VA = items0 := by rw [← hVA]; rfl
            have iB : itemsV VB = items1 := by rw [← hVB]; rfl
            rw [XV.out.1, hN, EA.out, EB.out, nA, nB, iA, iB, names_same (by have := FA.h_names; rw [la] at this; exact this) (by have := FB.h_names; rw [lb] at this; exact this)]
            rfl)
          obtain ⟨a', c', Fi, e, o1, n1, r1, c1⟩ := OI.out
          obtain ⟨na, nc, Fn, e2, o2, n2, r2, c2⟩ := CP.out
          simp only [Value.slice.injEq] at e e2
          obtain ⟨rfl, rfl, rfl⟩ := e
          obtain ⟨rfl, rfl, rfl⟩ := e2
          have FIN := Lib.hid (own_pair (k := 2) (o1.kept (fun b hb => BN.out.block b (r1 b hb).2)) n1 r1 c1 o2 n2 r2 c2 IR0.out BN.out.size)
          have hr5 : w.heap.size + 1 + 1 < w4.heap.size := (Array.getElem?_eq_some_iff.1 KR4.out).1
          go_wp2
          rw [EI.out, XF.out, XS.out]
          exact vec_ret0S rfl rfl rfl rfl (row_set KR.out) ⟨_, rfl, (FIN.out.row (show w.heap.size + 1 + 1 < w4.heap.size from hr5)).wide (show w.heap.size ≤ w4.heap.size by omega) (row_size _ _ _), below_row H.out.1 (show w.heap.size ≤ w.heap.size + 1 + 1 by omega) _⟩
        · have XX := Lib.hid (ariV_no (oi := some 2) (a := VA) (b := VB) hp)
          obtain ⟨R, hR⟩ : ∃ R, prbB true VA VB nonNumB = R := ⟨_, rfl⟩
          rw [hR] at hp XS ⊢
          have hRb : (R.toList == []) = false := by have h := str_not hp; rw [ByteArray.toList_eq ⟨#[]⟩] at h; exact h
          clear hp hR
          obtain ⟨z0, z1, z2, z3, z4, z5, z6, z7⟩ := vec8 KR.out
          obtain ⟨f0, f1, f2, f3, f4, f5, f6, f7⟩ := free8 KR.out
          go_wp2
          rw [EI.out, XX.out, XS.out]
          exact vec_endS rfl rfl rfl rfl KR.out (zeroS _ w _ (put8_below B4.out (show w.heap.size ≤ w.heap.size + 1 + 1 by omega)))
      ·
        by_cases h_3 : op = opA 3
        · have EI := Lib.hid (idx_3 h_0 h_1 h_2 h_3)
          obtain rfl : op = ⟨#[47]⟩ := h_3
          clear h_0 h_1 h_2
          have lk := lookA_3 MP.out
          have XS := Lib.hid (show ariS (some 3) VA VB = prbB true VA VB nonNumB from ariS_prb (some 3) VA VB)
          go_wp2_with fail
          refine (PB.out w2 B2.out true).mono ?_
          rintro e w4 ⟨rfl, b⟩
          have B4 := Lib.hid (below_then B2.out b)
          have KA := Lib.hid (blk_below b KA.out)
          have KB := Lib.hid (blk_below b KB.out)
          have KR := Lib.hid (blk_below b KR.out)
          clear b ka0 ka1 ka2 ka3 ka4 ka5 ka6 ka7 kb0 kb1 kb2 kb3 kb4 kb5 kb6 kb7 lk
          by_cases hp : prbB true VA VB nonNumB = ⟨#[]⟩
          · have OK := Lib.hid (prb_ok (u := nonNumB) (by decide) hp)
            rw [hp]
            rw [hp] at XS
            obtain ⟨hv, hcc, hnn⟩ := OK.out
            have XV := Lib.hid (ari_yes (i := 3) hv hcc hnn)
            have EA := Lib.hid (show itL VA = items0.length by rw [← hVA]; rfl)
            have EB := Lib.hid (show itL VB = items1.length by rw [← hVB]; rfl)
            have ma : items0.length ≤ 40 := by rw [← EA.out]; exact itL_le hv.1 hcc.1
            have mb : items1.length ≤ 40 := by rw [← EB.out]; exact itL_le hv.2 hcc.2
            have XA : ∀ i, i < items0.length → NumIt (items0.getD i noI) := fun i hi => num_at (by rw [hVA]; exact hv.1) (by rw [hVA]; exact hcc.1) hi
            have XB : ∀ i, i < items1.length → NumIt (items1.getD i noI) := fun i hi => num_at (by rw [hVB]; exact hv.2) (by rw [hVB]; exact hcc.2) hi
            have FA : FlatOk k0 items0 parts0.length names0 cls0 lev0 code0 env0 := by have h := hv.1; rw [← hVA] at h; exact h.1.flat
            have FB : FlatOk k1 items1 parts1.length names1 cls1 lev1 code1 env1 := by have h := hv.2; rw [← hVB] at h; exact h.1.flat
            have CRI := Lib.hid (fun (W : World) (hH : HeldC w W ([(w.heap.size, 31, #[.int .i64 k0, .slice ai0 items0.length ci0, .slice ap0 parts0.length cp0, .slice an0 names0.length cn0, .slice ac0 cls0.length cc0, .slice al0 lev0.length cl0, .int .i64 code0, .int .i64 env0]), ((w.heap.size + 1), 31, #[.int .i64 k1, .slice ai1 items1.length ci1, .slice ap1 parts1.length cp1, .slice an1 names1.length cn1, .slice ac1 cls1.length cc1, .slice al1 lev1.length cl1, .int .i64 code1, .int .i64 env1])])) => implRecIts 64 #[] divI items0 items1 ai0 ai1 ci0 ci1 lo hi items0.length items1.length W (hI0.below hH.1 hhi) (hI1.below hH.1 hhi) (Nat.le_trans hhi hH.1.size) rfl rfl ma mb (by kernel_rfl)
              (fun i j W' hi' hj' hb' => implDiv (items0.getD i noI) (items1.getD j noI) W' (XA i hi').t0 (XB j hj').t0))
            have CRN := Lib.hid (fun (W : World) (hH : HeldC w W ([(w.heap.size, 31, #[.int .i64 k0, .slice ai0 items0.length ci0, .slice ap0 parts0.length cp0, .slice an0 names0.length cn0, .slice ac0 cls0.length cc0, .slice al0 lev0.length cl0, .int .i64 code0, .int .i64 env0]), ((w.heap.size + 1), 31, #[.int .i64 k1, .slice ai1 items1.length ci1, .slice ap1 parts1.length cp1, .slice an1 names1.length cn1, .slice ac1 cls1.length cc1, .slice al1 lev1.length cl1, .int .i64 code1, .int .i64 env1])])) => implRecNames k0 names0 ai0 ap0 an0 ac0 al0 items0.length ci0 parts0.length cp0 cn0 cls0.length cc0 lev0.length cl0 code0 env0 k1 names1 ai1 ap1 an1 ac1 al1 items1.length ci1 parts1.length cp1 cn1 cls1.length cc1 lev1.length cl1 code1 env1 lo hi W (hN0.below hH.1 hhi) (hN1.below hH.1 hhi) (Nat.le_trans hhi hH.1.size) ln0 ln1 li0 li1)
            go_upto_region 5 with (fail)
            have KR4 := KR
            have H := Lib.hid (show HeldC w w4 ([(w.heap.size, 31, #[.int .i64 k0, .slice ai0 items0.length ci0, .slice ap0 parts0.length cp0, .slice an0 names0.length cn0, .slice ac0 cls0.length cc0, .slice al0 lev0.length cl0, .int .i64 code0, .int .i64 env0]), ((w.heap.size + 1), 31, #[.int .i64 k1, .slice ai1 items1.length ci1, .slice ap1 parts1.length cp1, .slice an1 names1.length cn1, .slice ac1 cls1.length cc1, .slice al1 lev1.length cl1, .int .i64 code1, .int .i64 env1])]) from heldC_cons (heldC_cons ⟨B4.out, (fun _ h => by cases h)⟩ KB.out) KA.out)
            refine run_region (ops := (opsOf Tryz.f19 5)) (S := fun w' => HeldC w w' ([(w.heap.size, 31, #[.int .i64 k0, .slice ai0 items0.length ci0, .slice ap0 parts0.length cp0, .slice an0 names0.length cn0, .slice ac0 cls0.length cc0, .slice al0 lev0.length cl0, .int .i64 code0, .int .i64 env0]), ((w.heap.size + 1), 31, #[.int .i64 k1, .slice ai1 items1.length ci1, .slice ap1 parts1.length cp1, .slice an1 names1.length cn1, .slice ac1 cls1.length cc1, .slice al1 lev1.length cl1, .int .i64 code1, .int .i64 env1])])) [(0, true), (1, true), (2, true), (3, true), (4, true), (6, true), (7, true), (5, false), (8, false), (9, false), (10, false), (11, true)] (by kernel_rfl) (by kernel_rfl) (by kernel_rfl) (by kernel_rfl) (by kernel_rfl) (fun _ _ _ _ _ h => h) (heldC_drew H.out) ?_
            have H := Lib.hid (heldC_drew H.out)
            have KR := Lib.hid (blk_below (below_drew' (Below.refl _ _)) KR.out)
            refine runC_partV (b := w.heap.size) (by kernel_rfl) (show opAt (opsOf Tryz.f19 5) 0 = some (some 25, .fieldAddr 31 (.tmp 4) 1, none) from by kernel_rfl) (by kernel_rfl) (by kernel_rfl) (by kernel_rfl) ?_
            refine runC_cell (b := w.heap.size) (j := 1) (v := .slice ai0 items0.length ci0) load_its (show opAt (opsOf Tryz.f19 5) 1 = some (some 26, .load 28 (.tmp 25), none) from by kernel_rfl) (by kernel_rfl) (by kernel_rfl) (by kernel_rfl) (List.Mem.head _) rfl ?_
            refine runC_partV (b := (w.heap.size + 1)) (by kernel_rfl) (show opAt (opsOf Tryz.f19 5) 2 = some (some 27, .fieldAddr 31 (.tmp 5) 1, none) from by kernel_rfl) (by kernel_rfl) (by kernel_rfl) (by kernel_rfl) ?_
            refine runC_cell (b := (w.heap.size + 1)) (j := 1) (v := .slice ai1 items1.length ci1) load_its (show opAt (opsOf Tryz.f19 5) 3 = some (some 28, .load 28 (.tmp 27), none) from by kernel_rfl) (by kernel_rfl) (by kernel_rfl) (by kernel_rfl) (List.Mem.tail _ (List.Mem.head _)) rfl ?_
            refine run_mov (v := .func (.func 64) #[] #[]) (show opAt (opsOf Tryz.f19 5) 4 = some (some 29, .move (.tmp 8), none) from by kernel_rfl) (by kernel_rfl) (by kernel_rfl) (by kernel_rfl) ?_
            refine runC_vec (b := w.heap.size) (show opAt (opsOf Tryz.f19 5) 6 = some (some 31, .load 31 (.tmp 4), none) from by kernel_rfl) (by kernel_rfl) (by kernel_rfl) (by kernel_rfl) (List.Mem.head _) ?_
            refine runC_vec (b := (w.heap.size + 1)) (show opAt (opsOf Tryz.f19 5) 7 = some (some 32, .load 31 (.tmp 5), none) from by kernel_rfl) (by kernel_rfl) (by kernel_rfl) (by kernel_rfl) (List.Mem.tail _ (List.Mem.head _)) ?_
            refine run_call (args := [.slice ai0 items0.length ci0, .slice ai1 items1.length ci1, .func (.func 64) #[] #[]]) (show opAt (opsOf Tryz.f19 5) 5 = some (some 30, .call { callee := .value (.func 43), args := [(.tmp 26), (.tmp 28), (.tmp 29)].toArray, argTypes := [28, 28, 66].toArray }, none) from by kernel_rfl) (by kernel_rfl) (by kernel_rfl) (by kernel_rfl) (by kernel_rfl) ?_
            refine (CRI.out _ H.out).mono ?_
            rintro en rw1 ⟨vi, rfl, hit⟩
            obtain ⟨si, ni, ci, rfl⟩ := hit.form
            have OI := Lib.hid (own_of_its hit.row)
            have IR0 := Lib.hid hit.below.size
            have KR := Lib.hid (blk_below hit.below KR.out)
            refine ⟨_, rfl, heldC_call H.out hit.below, ?_⟩
            have H := Lib.hid (heldC_call H.out hit.below)
            clear hit
            refine run_call (args := [.agg #[.int .i64 k0, .slice ai0 items0.length ci0, .slice ap0 parts0.length cp0, .slice an0 names0.length cn0, .slice ac0 cls0.length cc0, .slice al0 lev0.length cl0, .int .i64 code0, .int .i64 env0], .agg #[.int .i64 k1, .slice ai1 items1.length ci1, .slice ap1 parts1.length cp1, .slice an1 names1.length cn1, .slice ac1 cls1.length cc1, .slice al1 lev1.length cl1, .int .i64 code1, .int .i64 env1]]) (show opAt (opsOf Tryz.f19 5) 8 = some (some 33, .call { callee := .value (.func 44), args := [(.tmp 31), (.tmp 32)].toArray, argTypes := [31, 31].toArray }, none) from by kernel_rfl) (by kernel_rfl) (by kernel_rfl) (by kernel_rfl) (by kernel_rfl) ?_
            refine (CRN.out _ H.out).mono ?_
            rintro en rw2 ⟨⟨vn, rfl, hcp⟩, hb⟩
            have CP := Lib.hid hcp
            obtain ⟨sn, nn, cn, rfl⟩ : ∃ s n c, vn = .slice s n c := by obtain ⟨s, c, F, e, _⟩ := hcp; exact ⟨s, _, c, e⟩
            refine ⟨_, rfl, heldC_call H.out hb, ?_⟩
            have BN := Lib.hid hb
            have KR := Lib.hid (blk_below hb KR.out)
            have H := Lib.hid (heldC_call H.out hb)
            clear hcp hb
            refine run_bldK (k := 2) (sa := si) (n := ni) (m := ci) (sb := sn) (n' := nn) (m' := cn) (show opAt (opsOf Tryz.f19 5) 9 = some (some 34, .build 31 #[(0, .const (.int .i64 2)), (1, .tmp 30), (3, .tmp 33)], none) from by kernel_rfl) (by kernel_rfl) (by kernel_rfl) (by kernel_rfl) (by kernel_rfl) H.out ?_
            refine run_store (w' := rw2.setRow (w.heap.size + 1 + 1) #[.int .i64 2, .slice si ni ci, .slice none 0 0, .slice sn nn cn, .slice none 0 0, .slice none 0 0, .int .i64 0, .int .i64 0]) (show opAt (opsOf Tryz.f19 5) 10 = some (none, .store 31 (.tmp 6) (.tmp 34), none) from by kernel_rfl) (by kernel_rfl) (by kernel_rfl) (by kernel_rfl) (store_vec8 KR.out (by simp [Value.oneCell'])) ⟨below_row H.out.1 (show w.heap.size ≤ w.heap.size + 1 + 1 by omega) _, fun q hq => row_old (H.out.2 q hq) (by
              rcases List.mem_cons.1 hq with rfl | hq
              · simp only; omega
              · obtain rfl := List.mem_singleton.1 hq
                simp only; omega)⟩ ?_
            refine run_asg (v := .string ⟨#[]⟩) (show opAt (opsOf Tryz.f19 5) 11 = some (some 7, .assign (.const (.string ⟨#[]⟩)), none) from by kernel_rfl) (by kernel_rfl) (by kernel_rfl) (by kernel_rfl) ?_
            refine run_done ?_
            simp only [putAll, Act.put, List.setIfInBounds_toArray, List.set_cons_zero, List.set_cons_succ]
            have XF := Lib.hid (show ariV (some 3) VA VB = mkN 2 (itF (fun i => divI (items0.getD (i % items0.length) noI) (items1.getD (i % items1.length) noI)) (recN items0.length items1.length)) (namesR (recN items0.length items1.length) names0 names1) from by
              have la : lenV k0 items0.length parts0.length = items0.length := len_counts (by rw [hVA]; exact hv.1) (by rw [hVA]; exact hcc.1)
              have lb : lenV k1 items1.length parts1.length = items1.length := len_counts (by rw [hVB]; exact hv.2) (by rw [hVB]; exact hcc.2)
              have hN : (lgcN VA VB).toNat = recN items0.length items1.length := by rw [← EA.out, ← EB.out]; exact size_rec hnn
              have nA : namesV VA = names0 := by rw [← hVA]; rfl
              have nB : namesV VB = names1 := by rw [← hVB]; rfl
              have iA : itemsV VA = items0 := by rw [← hVA]; rfl
              have iB : itemsV VB = items1 := by rw [← hVB]; rfl
              rw [XV.out.1, hN, EA.out, EB.out, nA, nB, iA, iB, names_same (by have := FA.h_names; rw [la] at this; exact this) (by have := FB.h_names; rw [lb] at this; exact this)]
              rfl)
            obtain ⟨a', c', Fi, e, o1, n1, r1, c1⟩ := OI.out
            obtain ⟨na, nc, Fn, e2, o2, n2, r2, c2⟩ := CP.out
            simp only [Value.slice.injEq] at e e2
            obtain ⟨rfl, rfl, rfl⟩ := e
            obtain ⟨rfl, rfl, rfl⟩ := e2
            have FIN := Lib.hid (own_pair (k := 2) (o1.kept (fun b hb => BN.out.block b (r1 b hb).2)) n1 r1 c1 o2 n2 r2 c2 IR0.out BN.out.size)
            have hr5 : w.heap.size + 1 + 1 < w4.heap.size := (Array.getElem?_eq_some_iff.1 KR4.out).1
            go_wp2
            rw [EI.out, XF.out, XS.out]
            exact vec_ret0S rfl rfl rfl rfl (row_set KR.out) ⟨_, rfl, (FIN.out.row (show w.heap.size + 1 + 1 < w4.heap.size from hr5)).wide (show w.heap.size ≤ w4.heap.size by omega) (row_size _ _ _), below_row H.out.1 (show w.heap.size ≤ w.heap.size + 1 + 1 by omega) _⟩
          · have XX := Lib.hid (ariV_no (oi := some 3) (a := VA) (b := VB) hp)
            obtain ⟨R, hR⟩ : ∃ R, prbB true VA VB nonNumB = R := ⟨_, rfl⟩
            rw [hR] at hp XS ⊢
            have hRb : (R.toList == []) = false := by have h := str_not hp; rw [ByteArray.toList_eq ⟨#[]⟩] at h; exact h
            clear hp hR
            obtain ⟨z0, z1, z2, z3, z4, z5, z6, z7⟩ := vec8 KR.out
            obtain ⟨f0, f1, f2, f3, f4, f5, f6, f7⟩ := free8 KR.out
            go_wp2
            rw [EI.out, XX.out, XS.out]
            exact vec_endS rfl rfl rfl rfl KR.out (zeroS _ w _ (put8_below B4.out (show w.heap.size ≤ w.heap.size + 1 + 1 by omega)))
        ·
          by_cases h_4 : op = opA 4
          · have EI := Lib.hid (idx_4 h_0 h_1 h_2 h_3 h_4)
            obtain rfl : op = ⟨#[94]⟩ := h_4
            clear h_0 h_1 h_2 h_3
            have lk := lookA_4 MP.out
            have XS := Lib.hid (show ariS (some 4) VA VB = prbB true VA VB nonNumB from ariS_prb (some 4) VA VB)
            go_wp2_with fail
            refine (PB.out w2 B2.out true).mono ?_
            rintro e w4 ⟨rfl, b⟩
            have B4 := Lib.hid (below_then B2.out b)
            have KA := Lib.hid (blk_below b KA.out)
            have KB := Lib.hid (blk_below b KB.out)
            have KR := Lib.hid (blk_below b KR.out)
            clear b ka0 ka1 ka2 ka3 ka4 ka5 ka6 ka7 kb0 kb1 kb2 kb3 kb4 kb5 kb6 kb7 lk
            by_cases hp : prbB true VA VB nonNumB = ⟨#[]⟩
            · have OK := Lib.hid (prb_ok (u := nonNumB) (by decide) hp)
              rw [hp]
              rw [hp] at XS
              obtain ⟨hv, hcc, hnn⟩ := OK.out
              have XV := Lib.hid (ari_yes (i := 4) hv hcc hnn)
              have EA := Lib.hid (show itL VA = items0.length by rw [← hVA]; rfl)
              have EB := Lib.hid (show itL VB = items1.length by rw [← hVB]; rfl)
              have ma : items0.length ≤ 40 := by rw [← EA.out]; exact itL_le hv.1 hcc.1
              have mb : items1.length ≤ 40 := by rw [← EB.out]; exact itL_le hv.2 hcc.2
              have XA : ∀ i, i < items0.length → NumIt (items0.getD i noI) := fun i hi => num_at (by rw [hVA]; exact hv.1) (by rw [hVA]; exact hcc.1) hi
              have XB : ∀ i, i < items1.length → NumIt (items1.getD i noI) := fun i hi => num_at (by rw [hVB]; exact hv.2) (by rw [hVB]; exact hcc.2) hi
              have FA : FlatOk k0 items0 parts0.length names0 cls0 lev0 code0 env0 := by have h := hv.1; rw [← hVA] at h; exact h.1.flat
              have FB : FlatOk k1 items1 parts1.length names1 cls1 lev1 code1 env1 := by have h := hv.2; rw [← hVB] at h; exact h.1.flat
              have CRI := Lib.hid (fun (W : World) (hH : HeldC w W ([(w.heap.size, 31, #[.int .i64 k0, .slice ai0 items0.length ci0, .slice ap0 parts0.length cp0, .slice an0 names0.length cn0, .slice ac0 cls0.length cc0, .slice al0 lev0.length cl0, .int .i64 code0, .int .i64 env0]), ((w.heap.size + 1), 31, #[.int .i64 k1, .slice ai1 items1.length ci1, .slice ap1 parts1.length cp1, .slice an1 names1.length cn1, .slice ac1 cls1.length cc1, .slice al1 lev1.length cl1, .int .i64 code1, .int .i64 env1])])) => implRecIts 65 #[] powI items0 items1 ai0 ai1 ci0 ci1 lo hi items0.length items1.length W (hI0.below hH.1 hhi) (hI1.below hH.1 hhi) (Nat.le_trans hhi hH.1.size) rfl rfl ma mb (by kernel_rfl)
                (fun i j W' hi' hj' hb' => implPow (items0.getD i noI) (items1.getD j noI) W' (XA i hi').t0 (XB j hj').t0))
              have CRN := Lib.hid (fun (W : World) (hH : HeldC w W ([(w.heap.size, 31, #[.int .i64 k0, .slice ai0 items0.length ci0, .slice ap0 parts0.length cp0, .slice an0 names0.length cn0, .slice ac0 cls0.length cc0, .slice al0 lev0.length cl0, .int .i64 code0, .int .i64 env0]), ((w.heap.size + 1), 31, #[.int .i64 k1, .slice ai1 items1.length ci1, .slice ap1 parts1.length cp1, .slice an1 names1.length cn1, .slice ac1 cls1.length cc1, .slice al1 lev1.length cl1, .int .i64 code1, .int .i64 env1])])) => implRecNames k0 names0 ai0 ap0 an0 ac0 al0 items0.length ci0 parts0.length cp0 cn0 cls0.length cc0 lev0.length cl0 code0 env0 k1 names1 ai1 ap1 an1 ac1 al1 items1.length ci1 parts1.length cp1 cn1 cls1.length cc1 lev1.length cl1 code1 env1 lo hi W (hN0.below hH.1 hhi) (hN1.below hH.1 hhi) (Nat.le_trans hhi hH.1.size) ln0 ln1 li0 li1)
              go_upto_region 5 with (fail)
              have KR4 := KR
              have H := Lib.hid (show HeldC w w4 ([(w.heap.size, 31, #[.int .i64 k0, .slice ai0 items0.length ci0, .slice ap0 parts0.length cp0, .slice an0 names0.length cn0, .slice ac0 cls0.length cc0, .slice al0 lev0.length cl0, .int .i64 code0, .int .i64 env0]), ((w.heap.size + 1), 31, #[.int .i64 k1, .slice ai1 items1.length ci1, .slice ap1 parts1.length cp1, .slice an1 names1.length cn1, .slice ac1 cls1.length cc1, .slice al1 lev1.length cl1, .int .i64 code1, .int .i64 env1])]) from heldC_cons (heldC_cons ⟨B4.out, (fun _ h => by cases h)⟩ KB.out) KA.out)
              refine run_region (ops := (opsOf Tryz.f19 5)) (S := fun w' => HeldC w w' ([(w.heap.size, 31, #[.int .i64 k0, .slice ai0 items0.length ci0, .slice ap0 parts0.length cp0, .slice an0 names0.length cn0, .slice ac0 cls0.length cc0, .slice al0 lev0.length cl0, .int .i64 code0, .int .i64 env0]), ((w.heap.size + 1), 31, #[.int .i64 k1, .slice ai1 items1.length ci1, .slice ap1 parts1.length cp1, .slice an1 names1.length cn1, .slice ac1 cls1.length cc1, .slice al1 lev1.length cl1, .int .i64 code1, .int .i64 env1])])) [(0, true), (1, true), (2, true), (3, true), (4, true), (6, true), (7, true), (5, false), (8, false), (9, false), (10, false), (11, true)] (by kernel_rfl) (by kernel_rfl) (by kernel_rfl) (by kernel_rfl) (by kernel_rfl) (fun _ _ _ _ _ h => h) (heldC_drew H.out) ?_
              have H := Lib.hid (heldC_drew H.out)
              have KR := Lib.hid (blk_below (below_drew' (Below.refl _ _)) KR.out)
              refine runC_partV (b := w.heap.size) (by kernel_rfl) (show opAt (opsOf Tryz.f19 5) 0 = some (some 25, .fieldAddr 31 (.tmp 4) 1, none) from by kernel_rfl) (by kernel_rfl) (by kernel_rfl) (by kernel_rfl) ?_
              refine runC_cell (b := w.heap.size) (j := 1) (v := .slice ai0 items0.length ci0) load_its (show opAt (opsOf Tryz.f19 5) 1 = some (some 26, .load 28 (.tmp 25), none) from by kernel_rfl) (by kernel_rfl) (by kernel_rfl) (by kernel_rfl) (List.Mem.head _) rfl ?_
              refine runC_partV (b := (w.heap.size + 1)) (by kernel_rfl) (show opAt (opsOf Tryz.f19 5) 2 = some (some 27, .fieldAddr 31 (.tmp 5) 1, none) from by kernel_rfl) (by kernel_rfl) (by kernel_rfl) (by kernel_rfl) ?_
              refine runC_cell (b := (w.heap.size + 1)) (j := 1) (v := .slice ai1 items1.length ci1) load_its (show opAt (opsOf Tryz.f19 5) 3 = some (some 28, .load 28 (.tmp 27), none) from by kernel_rfl) (by kernel_rfl) (by kernel_rfl) (by kernel_rfl) (List.Mem.tail _ (List.Mem.head _)) rfl ?_
              refine run_mov (v := .func (.func 65) #[] #[]) (show opAt (opsOf Tryz.f19 5) 4 = some (some 29, .move (.tmp 8), none) from by kernel_rfl) (by kernel_rfl) (by kernel_rfl) (by kernel_rfl) ?_
              refine runC_vec (b := w.heap.size) (show opAt (opsOf Tryz.f19 5) 6 = some (some 31, .load 31 (.tmp 4), none) from by kernel_rfl) (by kernel_rfl) (by kernel_rfl) (by kernel_rfl) (List.Mem.head _) ?_
              refine runC_vec (b := (w.heap.size + 1)) (show opAt (opsOf Tryz.f19 5) 7 = some (some 32, .load 31 (.tmp 5), none) from by kernel_rfl) (by kernel_rfl) (by kernel_rfl) (by kernel_rfl) (List.Mem.tail _ (List.Mem.head _)) ?_
              refine run_call (args := [.slice ai0 items0.length ci0, .slice ai1 items1.length ci1, .func (.func 65) #[] #[]]) (show opAt (opsOf Tryz.f19 5) 5 = some (some 30, .call { callee := .value (.func 43), args := [(.tmp 26), (.tmp 28), (.tmp 29)].toArray, argTypes := [28, 28, 66].toArray }, none) from by kernel_rfl) (by kernel_rfl) (by kernel_rfl) (by kernel_rfl) (by kernel_rfl) ?_
              refine (CRI.out _ H.out).mono ?_
              rintro en rw1 ⟨vi, rfl, hit⟩
              obtain ⟨si, ni, ci, rfl⟩ := hit.form
              have OI := Lib.hid (own_of_its hit.row)
              have IR0 := Lib.hid hit.below.size
              have KR := Lib.hid (blk_below hit.below KR.out)
              refine ⟨_, rfl, heldC_call H.out hit.below, ?_⟩
              have H := Lib.hid (heldC_call H.out hit.below)
              clear hit
              refine run_call (args := [.agg #[.int .i64 k0, .slice ai0 items0.length ci0, .slice ap0 parts0.length cp0, .slice an0 names0.length cn0, .slice ac0 cls0.length cc0, .slice al0 lev0.length cl0, .int .i64 code0, .int .i64 env0], .agg #[.int .i64 k1, .slice ai1 items1.length ci1, .slice ap1 parts1.length cp1, .slice an1 names1.length cn1, .slice ac1 cls1.length cc1, .slice al1 lev1.length cl1, .int .i64 code1, .int .i64 env1]]) (show opAt (opsOf Tryz.f19 5) 8 = some (some 33, .call { callee := .value (.func 44), args := [(.tmp 31), (.tmp 32)].toArray, argTypes := [31, 31].toArray }, none) from by kernel_rfl) (by kernel_rfl) (by kernel_rfl) (by kernel_rfl) (by kernel_rfl) ?_
              refine (CRN.out _ H.out).mono ?_
              rintro en rw2 ⟨⟨vn, rfl, hcp⟩, hb⟩
              have CP := Lib.hid hcp
              obtain ⟨sn, nn, cn, rfl⟩ : ∃ s n c, vn = .slice s n c := by obtain ⟨s, c, F, e, _⟩ := hcp; exact ⟨s, _, c, e⟩
              refine ⟨_, rfl, heldC_call H.out hb, ?_⟩
              have BN := Lib.hid hb
              have KR := Lib.hid (blk_below hb KR.out)
              have H := Lib.hid (heldC_call H.out hb)
              clear hcp hb
              refine run_bldK (k := 2) (sa := si) (n := ni) (m := ci) (sb := sn) (n' := nn) (m' := cn) (show opAt (opsOf Tryz.f19 5) 9 = some (some 34, .build 31 #[(0, .const (.int .i64 2)), (1, .tmp 30), (3, .tmp 33)], none) from by kernel_rfl) (by kernel_rfl) (by kernel_rfl) (by kernel_rfl) (by kernel_rfl) H.out ?_
              refine run_store (w' := rw2.setRow (w.heap.size + 1 + 1) #[.int .i64 2, .slice si ni ci, .slice none 0 0, .slice sn nn cn, .slice none 0 0, .slice none 0 0, .int .i64 0, .int .i64 0]) (show opAt (opsOf Tryz.f19 5) 10 = some (none, .store 31 (.tmp 6) (.tmp 34), none) from by kernel_rfl) (by kernel_rfl) (by kernel_rfl) (by kernel_rfl) (store_vec8 KR.out (by simp [Value.oneCell'])) ⟨below_row H.out.1 (show w.heap.size ≤ w.heap.size + 1 + 1 by omega) _, fun q hq => row_old (H.out.2 q hq) (by
                rcases List.mem_cons.1 hq with rfl | hq
                · simp only; omega
                · obtain rfl := List.mem_singleton.1 hq
                  simp only; omega)⟩ ?_
              refine run_asg (v := .string ⟨#[]⟩) (show opAt (opsOf Tryz.f19 5) 11 = some (some 7, .assign (.const (.string ⟨#[]⟩)), none) from by kernel_rfl) (by kernel_rfl) (by kernel_rfl) (by kernel_rfl) ?_
              refine run_done ?_
              simp only [putAll, Act.put, List.setIfInBounds_toArray, List.set_cons_zero, List.set_cons_succ]
              have XF := Lib.hid (show ariV (some 4) VA VB = mkN 2 (itF (fun i => powI (items0.getD (i % items0.length) noI) (items1.getD (i % items1.length) noI)) (recN items0.length items1.length)) (namesR (recN items0.length items1.length) names0 names1) from by
                have la : lenV k0 items0.length parts0.length = items0.length := len_counts (by rw [hVA]; exact hv.1) (by rw [hVA]; exact hcc.1)
                have lb : lenV k1 items1.length parts1.length = items1.length := len_counts (by rw [hVB]; exact hv.2) (by rw [hVB]; exact hcc.2)
                have hN : (lgcN VA VB).toNat = recN items0.length items1.length := by rw [← EA.out, ← EB.out]; exact size_rec hnn
                have nA : namesV VA = names0 := by rw [← hVA]; rfl
                have nB : namesV VB = names1 := by rw [← hVB]; rfl
                have iA : itemsV VA = items0 := by rw [← hVA]; rfl
                have iB : itemsV VB = items1 := by rw [← hVB]; rfl
                rw [XV.out.1, hN, EA.out, EB.out, nA, nB, iA, iB, names_same (by have := FA.h_names; rw [la] at this; exact this) (by have := FB.h_names; rw [lb] at this; exact this)]
                rfl)
              obtain ⟨a', c', Fi, e, o1, n1, r1, c1⟩ := OI.out
              obtain ⟨na, nc, Fn, e2, o2, n2, r2, c2⟩ := CP.out
              simp only [Value.slice.injEq] at e e2
              obtain ⟨rfl, rfl, rfl⟩ := e
              obtain ⟨rfl, rfl, rfl⟩ := e2
              have FIN := Lib.hid (own_pair (k := 2) (o1.kept (fun b hb => BN.out.block b (r1 b hb).2)) n1 r1 c1 o2 n2 r2 c2 IR0.out BN.out.size)
              have hr5 : w.heap.size + 1 + 1 < w4.heap.size := (Array.getElem?_eq_some_iff.1 KR4.out).1
              go_wp2
              rw [EI.out, XF.out, XS.out]
              exact vec_ret0S rfl rfl rfl rfl (row_set KR.out) ⟨_, rfl, (FIN.out.row (show w.heap.size + 1 + 1 < w4.heap.size from hr5)).wide (show w.heap.size ≤ w4.heap.size by omega) (row_size _ _ _), below_row H.out.1 (show w.heap.size ≤ w.heap.size + 1 + 1 by omega) _⟩
            · have XX := Lib.hid (ariV_no (oi := some 4) (a := VA) (b := VB) hp)
              obtain ⟨R, hR⟩ : ∃ R, prbB true VA VB nonNumB = R := ⟨_, rfl⟩
              rw [hR] at hp XS ⊢
              have hRb : (R.toList == []) = false := by have h := str_not hp; rw [ByteArray.toList_eq ⟨#[]⟩] at h; exact h
              clear hp hR
              obtain ⟨z0, z1, z2, z3, z4, z5, z6, z7⟩ := vec8 KR.out
              obtain ⟨f0, f1, f2, f3, f4, f5, f6, f7⟩ := free8 KR.out
              go_wp2
              rw [EI.out, XX.out, XS.out]
              exact vec_endS rfl rfl rfl rfl KR.out (zeroS _ w _ (put8_below B4.out (show w.heap.size ≤ w.heap.size + 1 + 1 by omega)))
          ·
            by_cases h_5 : op = opA 5
            · have EI := Lib.hid (idx_5 h_0 h_1 h_2 h_3 h_4 h_5)
              obtain rfl : op = ⟨#[37, 37]⟩ := h_5
              clear h_0 h_1 h_2 h_3 h_4
              have lk := lookA_5 MP.out
              have XS := Lib.hid (show ariS (some 5) VA VB = prbB true VA VB nonNumB from ariS_prb (some 5) VA VB)
              go_wp2_with fail
              refine (PB.out w2 B2.out true).mono ?_
              rintro e w4 ⟨rfl, b⟩
              have B4 := Lib.hid (below_then B2.out b)
              have KA := Lib.hid (blk_below b KA.out)
              have KB := Lib.hid (blk_below b KB.out)
              have KR := Lib.hid (blk_below b KR.out)
              clear b ka0 ka1 ka2 ka3 ka4 ka5 ka6 ka7 kb0 kb1 kb2 kb3 kb4 kb5 kb6 kb7 lk
              by_cases hp : prbB true VA VB nonNumB = ⟨#[]⟩
              · have OK := Lib.hid (prb_ok (u := nonNumB) (by decide) hp)
                rw [hp]
                rw [hp] at XS
                obtain ⟨hv, hcc, hnn⟩ := OK.out
                have XV := Lib.hid (ari_yes (i := 5) hv hcc hnn)
                have EA := Lib.hid (show itL VA = items0.length by rw [← hVA]; rfl)
                have EB := Lib.hid (show itL VB = items1.length by rw [← hVB]; rfl)
                have ma : items0.length ≤ 40 := by rw [← EA.out]; exact itL_le hv.1 hcc.1
                have mb : items1.length ≤ 40 := by rw [← EB.out]; exact itL_le hv.2 hcc.2
                have XA : ∀ i, i < items0.length → NumIt (items0.getD i noI) := fun i hi => num_at (by rw [hVA]; exact hv.1) (by rw [hVA]; exact hcc.1) hi
                have XB : ∀ i, i < items1.length → NumIt (items1.getD i noI) := fun i hi => num_at (by rw [hVB]; exact hv.2) (by rw [hVB]; exact hcc.2) hi
                have FA : FlatOk k0 items0 parts0.length names0 cls0 lev0 code0 env0 := by have h := hv.1; rw [← hVA] at h; exact h.1.flat
                have FB : FlatOk k1 items1 parts1.length names1 cls1 lev1 code1 env1 := by have h := hv.2; rw [← hVB] at h; exact h.1.flat
                have CRI := Lib.hid (fun (W : World) (hH : HeldC w W ([(w.heap.size, 31, #[.int .i64 k0, .slice ai0 items0.length ci0, .slice ap0 parts0.length cp0, .slice an0 names0.length cn0, .slice ac0 cls0.length cc0, .slice al0 lev0.length cl0, .int .i64 code0, .int .i64 env0]), ((w.heap.size + 1), 31, #[.int .i64 k1, .slice ai1 items1.length ci1, .slice ap1 parts1.length cp1, .slice an1 names1.length cn1, .slice ac1 cls1.length cc1, .slice al1 lev1.length cl1, .int .i64 code1, .int .i64 env1])])) => implRecIts 66 #[] remI items0 items1 ai0 ai1 ci0 ci1 lo hi items0.length items1.length W (hI0.below hH.1 hhi) (hI1.below hH.1 hhi) (Nat.le_trans hhi hH.1.size) rfl rfl ma mb (by kernel_rfl)
                  (fun i j W' hi' hj' hb' => implRem (items0.getD i noI) (items1.getD j noI) W' (XA i hi').t0 (XB j hj').t0))
                have CRN := Lib.hid (fun (W : World) (hH : HeldC w W ([(w.heap.size, 31, #[.int .i64 k0, .slice ai0 items0.length ci0, .slice ap0 parts0.length cp0, .slice an0 names0.length cn0, .slice ac0 cls0.length cc0, .slice al0 lev0.length cl0, .int .i64 code0, .int .i64 env0]), ((w.heap.size + 1), 31, #[.int .i64 k1, .slice ai1 items1.length ci1, .slice ap1 parts1.length cp1, .slice an1 names1.length cn1, .slice ac1 cls1.length cc1, .slice al1 lev1.length cl1, .int .i64 code1, .int .i64 env1])])) => implRecNames k0 names0 ai0 ap0 an0 ac0 al0 items0.length ci0 parts0.length cp0 cn0 cls0.length cc0 lev0.length cl0 code0 env0 k1 names1 ai1 ap1 an1 ac1 al1 items1.length ci1 parts1.length cp1 cn1 cls1.length cc1 lev1.length cl1 code1 env1 lo hi W (hN0.below hH.1 hhi) (hN1.below hH.1 hhi) (Nat.le_trans hhi hH.1.size) ln0 ln1 li0 li1)
                go_upto_region 5 with (fail)
                have KR4 := KR
                have H := Lib.hid (show HeldC w w4 ([(w.heap.size, 31, #[.int .i64 k0, .slice ai0 items0.length ci0, .slice ap0 parts0.length cp0, .slice an0 names0.length cn0, .slice ac0 cls0.length cc0, .slice al0 lev0.length cl0, .int .i64 code0, .int .i64 env0]), ((w.heap.size + 1), 31, #[.int .i64 k1, .slice ai1 items1.length ci1, .slice ap1 parts1.length cp1, .slice an1 names1.length cn1, .slice ac1 cls1.length cc1, .slice al1 lev1.length cl1, .int .i64 code1, .int .i64 env1])]) from heldC_cons (heldC_cons ⟨B4.out, (fun _ h => by cases h)⟩ KB.out) KA.out)
                refine run_region (ops := (opsOf Tryz.f19 5)) (S := fun w' => HeldC w w' ([(w.heap.size, 31, #[.int .i64 k0, .slice ai0 items0.length ci0, .slice ap0 parts0.length cp0, .slice an0 names0.length cn0, .slice ac0 cls0.length cc0, .slice al0 lev0.length cl0, .int .i64 code0, .int .i64 env0]), ((w.heap.size + 1), 31, #[.int .i64 k1, .slice ai1 items1.length ci1, .slice ap1 parts1.length cp1, .slice an1 names1.length cn1, .slice ac1 cls1.length cc1, .slice al1 lev1.length cl1, .int .i64 code1, .int .i64 env1])])) [(0, true), (1, true), (2, true), (3, true), (4, true), (6, true), (7, true), (5, false), (8, false), (9, false), (10, false), (11, true)] (by kernel_rfl) (by kernel_rfl) (by kernel_rfl) (by kernel_rfl) (by kernel_rfl) (fun _ _ _ _ _ h => h) (heldC_drew H.out) ?_
                have H := Lib.hid (heldC_drew H.out)
                have KR := Lib.hid (blk_below (below_drew' (Below.refl _ _)) KR.out)
                refine runC_partV (b := w.heap.size) (by kernel_rfl) (show opAt (opsOf Tryz.f19 5) 0 = some (some 25, .fieldAddr 31 (.tmp 4) 1, none) from by kernel_rfl) (by kernel_rfl) (by kernel_rfl) (by kernel_rfl) ?_
                refine runC_cell (b := w.heap.size) (j := 1) (v := .slice ai0 items0.length ci0) load_its (show opAt (opsOf Tryz.f19 5) 1 = some (some 26, .load 28 (.tmp 25), none) from by kernel_rfl) (by kernel_rfl) (by kernel_rfl) (by kernel_rfl) (List.Mem.head _) rfl ?_
                refine runC_partV (b := (w.heap.size + 1)) (by kernel_rfl) (show opAt (opsOf Tryz.f19 5) 2 = some (some 27, .fieldAddr 31 (.tmp 5) 1, none) from by kernel_rfl) (by kernel_rfl) (by kernel_rfl) (by kernel_rfl) ?_
                refine runC_cell (b := (w.heap.size + 1)) (j := 1) (v := .slice ai1 items1.length ci1) load_its (show opAt (opsOf Tryz.f19 5) 3 = some (some 28, .load 28 (.tmp 27), none) from by kernel_rfl) (by kernel_rfl) (by kernel_rfl) (by kernel_rfl) (List.Mem.tail _ (List.Mem.head _)) rfl ?_
                refine run_mov (v := .func (.func 66) #[] #[]) (show opAt (opsOf Tryz.f19 5) 4 = some (some 29, .move (.tmp 8), none) from by kernel_rfl) (by kernel_rfl) (by kernel_rfl) (by kernel_rfl) ?_
                refine runC_vec (b := w.heap.size) (show opAt (opsOf Tryz.f19 5) 6 = some (some 31, .load 31 (.tmp 4), none) from by kernel_rfl) (by kernel_rfl) (by kernel_rfl) (by kernel_rfl) (List.Mem.head _) ?_
                refine runC_vec (b := (w.heap.size + 1)) (show opAt (opsOf Tryz.f19 5) 7 = some (some 32, .load 31 (.tmp 5), none) from by kernel_rfl) (by kernel_rfl) (by kernel_rfl) (by kernel_rfl) (List.Mem.tail _ (List.Mem.head _)) ?_
                refine run_call (args := [.slice ai0 items0.length ci0, .slice ai1 items1.length ci1, .func (.func 66) #[] #[]]) (show opAt (opsOf Tryz.f19 5) 5 = some (some 30, .call { callee := .value (.func 43), args := [(.tmp 26), (.tmp 28), (.tmp 29)].toArray, argTypes := [28, 28, 66].toArray }, none) from by kernel_rfl) (by kernel_rfl) (by kernel_rfl) (by kernel_rfl) (by kernel_rfl) ?_
                refine (CRI.out _ H.out).mono ?_
                rintro en rw1 ⟨vi, rfl, hit⟩
                obtain ⟨si, ni, ci, rfl⟩ := hit.form
                have OI := Lib.hid (own_of_its hit.row)
                have IR0 := Lib.hid hit.below.size
                have KR := Lib.hid (blk_below hit.below KR.out)
                refine ⟨_, rfl, heldC_call H.out hit.below, ?_⟩
                have H := Lib.hid (heldC_call H.out hit.below)
                clear hit
                refine run_call (args := [.agg #[.int .i64 k0, .slice ai0 items0.length ci0, .slice ap0 parts0.length cp0, .slice an0 names0.length cn0, .slice ac0 cls0.length cc0, .slice al0 lev0.length cl0, .int .i64 code0, .int .i64 env0], .agg #[.int .i64 k1, .slice ai1 items1.length ci1, .slice ap1 parts1.length cp1, .slice an1 names1.length cn1, .slice ac1 cls1.length cc1, .slice al1 lev1.length cl1, .int .i64 code1, .int .i64 env1]]) (show opAt (opsOf Tryz.f19 5) 8 = some (some 33, .call { callee := .value (.func 44), args := [(.tmp 31), (.tmp 32)].toArray, argTypes := [31, 31].toArray }, none) from by kernel_rfl) (by kernel_rfl) (by kernel_rfl) (by kernel_rfl) (by kernel_rfl) ?_
                refine (CRN.out _ H.out).mono ?_
                rintro en rw2 ⟨⟨vn, rfl, hcp⟩, hb⟩
                have CP := Lib.hid hcp
                obtain ⟨sn, nn, cn, rfl⟩ : ∃ s n c, vn = .slice s n c := by obtain ⟨s, c, F, e, _⟩ := hcp; exact ⟨s, _, c, e⟩
                refine ⟨_, rfl, heldC_call H.out hb, ?_⟩
                have BN := Lib.hid hb
                have KR := Lib.hid (blk_below hb KR.out)
                have H := Lib.hid (heldC_call H.out hb)
                clear hcp hb
                refine run_bldK (k := 2) (sa := si) (n := ni) (m := ci) (sb := sn) (n' := nn) (m' := cn) (show opAt (opsOf Tryz.f19 5) 9 = some (some 34, .build 31 #[(0, .const (.int .i64 2)), (1, .tmp 30), (3, .tmp 33)], none) from by kernel_rfl) (by kernel_rfl) (by kernel_rfl) (by kernel_rfl) (by kernel_rfl) H.out ?_
                refine run_store (w' := rw2.setRow (w.heap.size + 1 + 1) #[.int .i64 2, .slice si ni ci, .slice none 0 0, .slice sn nn cn, .slice none 0 0, .slice none 0 0, .int .i64 0, .int .i64 0]) (show opAt (opsOf Tryz.f19 5) 10 = some (none, .store 31 (.tmp 6) (.tmp 34), none) from by kernel_rfl) (by kernel_rfl) (by kernel_rfl) (by kernel_rfl) (store_vec8 KR.out (by simp [Value.oneCell'])) ⟨below_row H.out.1 (show w.heap.size ≤ w.heap.size + 1 + 1 by omega) _, fun q hq => row_old (H.out.2 q hq) (by
                  rcases List.mem_cons.1 hq with rfl | hq
                  · simp only; omega
                  · obtain rfl := List.mem_singleton.1 hq
                    simp only; omega)⟩ ?_
                refine run_asg (v := .string ⟨#[]⟩) (show opAt (opsOf Tryz.f19 5) 11 = some (some 7, .assign (.const (.string ⟨#[]⟩)), none) from by kernel_rfl) (by kernel_rfl) (by kernel_rfl) (by kernel_rfl) ?_
                refine run_done ?_
                simp only [putAll, Act.put, List.setIfInBounds_toArray, List.set_cons_zero, List.set_cons_succ]
                have XF := Lib.hid (show ariV (some 5) VA VB = mkN 2 (itF (fun i => remI (items0.getD (i % items0.length) noI) (items1.getD (i % items1.length) noI)) (recN items0.length items1.length)) (namesR (recN items0.length items1.length) names0 names1) from by
                  have la : lenV k0 items0.length parts0.length = items0.length := len_counts (by rw [hVA]; exact hv.1) (by rw [hVA]; exact hcc.1)
                  have lb : lenV k1 items1.length parts1.length = items1.length := len_counts (by rw [hVB]; exact hv.2) (by rw [hVB]; exact hcc.2)
                  have hN : (lgcN VA VB).toNat = recN items0.length items1.length := by rw [← EA.out, ← EB.out]; exact size_rec hnn
                  have nA : namesV VA = names0 := by rw [← hVA]; rfl
                  have nB : namesV VB = names1 := by rw [← hVB]; rfl
                  have iA : itemsV VA = items0 := by rw [← hVA]; rfl
                  have iB : itemsV VB = items1 := by rw [← hVB]; rfl
                  rw [XV.out.1, hN, EA.out, EB.out, nA, nB, iA, iB, names_same (by have := FA.h_names; rw [la] at this; exact this) (by have := FB.h_names; rw [lb] at this; exact this)]
                  rfl)
                obtain ⟨a', c', Fi, e, o1, n1, r1, c1⟩ := OI.out
                obtain ⟨na, nc, Fn, e2, o2, n2, r2, c2⟩ := CP.out
                simp only [Value.slice.injEq] at e e2
                obtain ⟨rfl, rfl, rfl⟩ := e
                obtain ⟨rfl, rfl, rfl⟩ := e2
                have FIN := Lib.hid (own_pair (k := 2) (o1.kept (fun b hb => BN.out.block b (r1 b hb).2)) n1 r1 c1 o2 n2 r2 c2 IR0.out BN.out.size)
                have hr5 : w.heap.size + 1 + 1 < w4.heap.size := (Array.getElem?_eq_some_iff.1 KR4.out).1
                go_wp2
                rw [EI.out, XF.out, XS.out]
                exact vec_ret0S rfl rfl rfl rfl (row_set KR.out) ⟨_, rfl, (FIN.out.row (show w.heap.size + 1 + 1 < w4.heap.size from hr5)).wide (show w.heap.size ≤ w4.heap.size by omega) (row_size _ _ _), below_row H.out.1 (show w.heap.size ≤ w.heap.size + 1 + 1 by omega) _⟩
              · have XX := Lib.hid (ariV_no (oi := some 5) (a := VA) (b := VB) hp)
                obtain ⟨R, hR⟩ : ∃ R, prbB true VA VB nonNumB = R := ⟨_, rfl⟩
                rw [hR] at hp XS ⊢
                have hRb : (R.toList == []) = false := by have h := str_not hp; rw [ByteArray.toList_eq ⟨#[]⟩] at h; exact h
                clear hp hR
                obtain ⟨z0, z1, z2, z3, z4, z5, z6, z7⟩ := vec8 KR.out
                obtain ⟨f0, f1, f2, f3, f4, f5, f6, f7⟩ := free8 KR.out
                go_wp2
                rw [EI.out, XX.out, XS.out]
                exact vec_endS rfl rfl rfl rfl KR.out (zeroS _ w _ (put8_below B4.out (show w.heap.size ≤ w.heap.size + 1 + 1 by omega)))
            ·
              by_cases h_6 : op = opA 6
              · have EI := Lib.hid (idx_6 h_0 h_1 h_2 h_3 h_4 h_5 h_6)
                obtain rfl : op = ⟨#[37, 47, 37]⟩ := h_6
                clear h_0 h_1 h_2 h_3 h_4 h_5
                have lk := lookA_6 MP.out
                have XS := Lib.hid (show ariS (some 6) VA VB = prbB true VA VB nonNumB from ariS_prb (some 6) VA VB)
                go_wp2_with fail
                refine (PB.out w2 B2.out true).mono ?_
                rintro e w4 ⟨rfl, b⟩
                have B4 := Lib.hid (below_then B2.out b)
                have KA := Lib.hid (blk_below b KA.out)
                have KB := Lib.hid (blk_below b KB.out)
                have KR := Lib.hid (blk_below b KR.out)
                clear b ka0 ka1 ka2 ka3 ka4 ka5 ka6 ka7 kb0 kb1 kb2 kb3 kb4 kb5 kb6 kb7 lk
                by_cases hp : prbB true VA VB nonNumB = ⟨#[]⟩
                · have OK := Lib.hid (prb_ok (u := nonNumB) (by decide) hp)
                  rw [hp]
                  rw [hp] at XS
                  obtain ⟨hv, hcc, hnn⟩ := OK.out
                  have XV := Lib.hid (ari_yes (i := 6) hv hcc hnn)
                  have EA := Lib.hid (show itL VA = items0.length by rw [← hVA]; rfl)
                  have EB := Lib.hid (show itL VB = items1.length by rw [← hVB]; rfl)
                  have ma : items0.length ≤ 40 := by rw [← EA.out]; exact itL_le hv.1 hcc.1
                  have mb : items1.length ≤ 40 := by rw [← EB.out]; exact itL_le hv.2 hcc.2
                  have XA : ∀ i, i < items0.length → NumIt (items0.getD i noI) := fun i hi => num_at (by rw [hVA]; exact hv.1) (by rw [hVA]; exact hcc.1) hi
                  have XB : ∀ i, i < items1.length → NumIt (items1.getD i noI) := fun i hi => num_at (by rw [hVB]; exact hv.2) (by rw [hVB]; exact hcc.2) hi
                  have FA : FlatOk k0 items0 parts0.length names0 cls0 lev0 code0 env0 := by have h := hv.1; rw [← hVA] at h; exact h.1.flat
                  have FB : FlatOk k1 items1 parts1.length names1 cls1 lev1 code1 env1 := by have h := hv.2; rw [← hVB] at h; exact h.1.flat
                  have CRI := Lib.hid (fun (W : World) (hH : HeldC w W ([(w.heap.size, 31, #[.int .i64 k0, .slice ai0 items0.length ci0, .slice ap0 parts0.length cp0, .slice an0 names0.length cn0, .slice ac0 cls0.length cc0, .slice al0 lev0.length cl0, .int .i64 code0, .int .i64 env0]), ((w.heap.size + 1), 31, #[.int .i64 k1, .slice ai1 items1.length ci1, .slice ap1 parts1.length cp1, .slice an1 names1.length cn1, .slice ac1 cls1.length cc1, .slice al1 lev1.length cl1, .int .i64 code1, .int .i64 env1])])) => implRecIts 67 #[] quoI items0 items1 ai0 ai1 ci0 ci1 lo hi items0.length items1.length W (hI0.below hH.1 hhi) (hI1.below hH.1 hhi) (Nat.le_trans hhi hH.1.size) rfl rfl ma mb (by kernel_rfl)
                    (fun i j W' hi' hj' hb' => implQuo (items0.getD i noI) (items1.getD j noI) W' (XA i hi').t0 (XB j hj').t0))
                  have CRN := Lib.hid (fun (W : World) (hH : HeldC w W ([(w.heap.size, 31, #[.int .i64 k0, .slice ai0 items0.length ci0, .slice ap0 parts0.length cp0, .slice an0 names0.length cn0, .slice ac0 cls0.length cc0, .slice al0 lev0.length cl0, .int .i64 code0, .int .i64 env0]), ((w.heap.size + 1), 31, #[.int .i64 k1, .slice ai1 items1.length ci1, .slice ap1 parts1.length cp1, .slice an1 names1.length cn1, .slice ac1 cls1.length cc1, .slice al1 lev1.length cl1, .int .i64 code1, .int .i64 env1])])) => implRecNames k0 names0 ai0 ap0 an0 ac0 al0 items0.length ci0 parts0.length cp0 cn0 cls0.length cc0 lev0.length cl0 code0 env0 k1 names1 ai1 ap1 an1 ac1 al1 items1.length ci1 parts1.length cp1 cn1 cls1.length cc1 lev1.length cl1 code1 env1 lo hi W (hN0.below hH.1 hhi) (hN1.below hH.1 hhi) (Nat.le_trans hhi hH.1.size) ln0 ln1 li0 li1)
                  go_upto_region 5 with (fail)
                  have KR4 := KR
                  have H := Lib.hid (show HeldC w w4 ([(w.heap.size, 31, #[.int .i64 k0, .slice ai0 items0.length ci0, .slice ap0 parts0.length cp0, .slice an0 names0.length cn0, .slice ac0 cls0.length cc0, .slice al0 lev0.length cl0, .int .i64 code0, .int .i64 env0]), ((w.heap.size + 1), 31, #[.int .i64 k1, .slice ai1 items1.length ci1, .slice ap1 parts1.length cp1, .slice an1 names1.length cn1, .slice ac1 cls1.length cc1, .slice al1 lev1.length cl1, .int .i64 code1, .int .i64 env1])]) from heldC_cons (heldC_cons ⟨B4.out, (fun _ h => by cases h)⟩ KB.out) KA.out)
                  refine run_region (ops := (opsOf Tryz.f19 5)) (S := fun w' => HeldC w w' ([(w.heap.size, 31, #[.int .i64 k0, .slice ai0 items0.length ci0, .slice ap0 parts0.length cp0, .slice an0 names0.length cn0, .slice ac0 cls0.length cc0, .slice al0 lev0.length cl0, .int .i64 code0, .int .i64 env0]), ((w.heap.size + 1), 31, #[.int .i64 k1, .slice ai1 items1.length ci1, .slice ap1 parts1.length cp1, .slice an1 names1.length cn1, .slice ac1 cls1.length cc1, .slice al1 lev1.length cl1, .int .i64 code1, .int .i64 env1])])) [(0, true), (1, true), (2, true), (3, true), (4, true), (6, true), (7, true), (5, false), (8, false), (9, false), (10, false), (11, true)] (by kernel_rfl) (by kernel_rfl) (by kernel_rfl) (by kernel_rfl) (by kernel_rfl) (fun _ _ _ _ _ h => h) (heldC_drew H.out) ?_
                  have H := Lib.hid (heldC_drew H.out)
                  have KR := Lib.hid (blk_below (below_drew' (Below.refl _ _)) KR.out)
                  refine runC_partV (b := w.heap.size) (by kernel_rfl) (show opAt (opsOf Tryz.f19 5) 0 = some (some 25, .fieldAddr 31 (.tmp 4) 1, none) from by kernel_rfl) (by kernel_rfl) (by kernel_rfl) (by kernel_rfl) ?_
                  refine runC_cell (b := w.heap.size) (j := 1) (v := .slice ai0 items0.length ci0) load_its (show opAt (opsOf Tryz.f19 5) 1 = some (some 26, .load 28 (.tmp 25), none) from by kernel_rfl) (by kernel_rfl) (by kernel_rfl) (by kernel_rfl) (List.Mem.head _) rfl ?_
                  refine runC_partV (b := (w.heap.size + 1)) (by kernel_rfl) (show opAt (opsOf Tryz.f19 5) 2 = some (some 27, .fieldAddr 31 (.tmp 5) 1, none) from by kernel_rfl) (by kernel_rfl) (by kernel_rfl) (by kernel_rfl) ?_
                  refine runC_cell (b := (w.heap.size + 1)) (j := 1) (v := .slice ai1 items1.length ci1) load_its (show opAt (opsOf Tryz.f19 5) 3 = some (some 28, .load 28 (.tmp 27), none) from by kernel_rfl) (by kernel_rfl) (by kernel_rfl) (by kernel_rfl) (List.Mem.tail _ (List.Mem.head _)) rfl ?_
                  refine run_mov (v := .func (.func 67) #[] #[]) (show opAt (opsOf Tryz.f19 5) 4 = some (some 29, .move (.tmp 8), none) from by kernel_rfl) (by kernel_rfl) (by kernel_rfl) (by kernel_rfl) ?_
                  refine runC_vec (b := w.heap.size) (show opAt (opsOf Tryz.f19 5) 6 = some (some 31, .load 31 (.tmp 4), none) from by kernel_rfl) (by kernel_rfl) (by kernel_rfl) (by kernel_rfl) (List.Mem.head _) ?_
                  refine runC_vec (b := (w.heap.size + 1)) (show opAt (opsOf Tryz.f19 5) 7 = some (some 32, .load 31 (.tmp 5), none) from by kernel_rfl) (by kernel_rfl) (by kernel_rfl) (by kernel_rfl) (List.Mem.tail _ (List.Mem.head _)) ?_
                  refine run_call (args := [.slice ai0 items0.length ci0, .slice ai1 items1.length ci1, .func (.func 67) #[] #[]]) (show opAt (opsOf Tryz.f19 5) 5 = some (some 30, .call { callee := .value (.func 43), args := [(.tmp 26), (.tmp 28), (.tmp 29)].toArray, argTypes := [28, 28, 66].toArray }, none) from by kernel_rfl) (by kernel_rfl) (by kernel_rfl) (by kernel_rfl) (by kernel_rfl) ?_
                  refine (CRI.out _ H.out).mono ?_
                  rintro en rw1 ⟨vi, rfl, hit⟩
                  obtain ⟨si, ni, ci, rfl⟩ := hit.form
                  have OI := Lib.hid (own_of_its hit.row)
                  have IR0 := Lib.hid hit.below.size
                  have KR := Lib.hid (blk_below hit.below KR.out)
                  refine ⟨_, rfl, heldC_call H.out hit.below, ?_⟩
                  have H := Lib.hid (heldC_call H.out hit.below)
                  clear hit
                  refine run_call (args := [.agg #[.int .i64 k0, .slice ai0 items0.length ci0, .slice ap0 parts0.length cp0, .slice an0 names0.length cn0, .slice ac0 cls0.length cc0, .slice al0 lev0.length cl0, .int .i64 code0, .int .i64 env0], .agg #[.int .i64 k1, .slice ai1 items1.length ci1, .slice ap1 parts1.length cp1, .slice an1 names1.length cn1, .slice ac1 cls1.length cc1, .slice al1 lev1.length cl1, .int .i64 code1, .int .i64 env1]]) (show opAt (opsOf Tryz.f19 5) 8 = some (some 33, .call { callee := .value (.func 44), args := [(.tmp 31), (.tmp 32)].toArray, argTypes := [31, 31].toArray }, none) from by kernel_rfl) (by kernel_rfl) (by kernel_rfl) (by kernel_rfl) (by kernel_rfl) ?_
                  refine (CRN.out _ H.out).mono ?_
                  rintro en rw2 ⟨⟨vn, rfl, hcp⟩, hb⟩
                  have CP := Lib.hid hcp
                  obtain ⟨sn, nn, cn, rfl⟩ : ∃ s n c, vn = .slice s n c := by obtain ⟨s, c, F, e, _⟩ := hcp; exact ⟨s, _, c, e⟩
                  refine ⟨_, rfl, heldC_call H.out hb, ?_⟩
                  have BN := Lib.hid hb
                  have KR := Lib.hid (blk_below hb KR.out)
                  have H := Lib.hid (heldC_call H.out hb)
                  clear hcp hb
                  refine run_bldK (k := 2) (sa := si) (n := ni) (m := ci) (sb := sn) (n' := nn) (m' := cn) (show opAt (opsOf Tryz.f19 5) 9 = some (some 34, .build 31 #[(0, .const (.int .i64 2)), (1, .tmp 30), (3, .tmp 33)], none) from by kernel_rfl) (by kernel_rfl) (by kernel_rfl) (by kernel_rfl) (by kernel_rfl) H.out ?_
                  refine run_store (w' := rw2.setRow (w.heap.size + 1 + 1) #[.int .i64 2, .slice si ni ci, .slice none 0 0, .slice sn nn cn, .slice none 0 0, .slice none 0 0, .int .i64 0, .int .i64 0]) (show opAt (opsOf Tryz.f19 5) 10 = some (none, .store 31 (.tmp 6) (.tmp 34), none) from by kernel_rfl) (by kernel_rfl) (by kernel_rfl) (by kernel_rfl) (store_vec8 KR.out (by simp [Value.oneCell'])) ⟨below_row H.out.1 (show w.heap.size ≤ w.heap.size + 1 + 1 by omega) _, fun q hq => row_old (H.out.2 q hq) (by
                    rcases List.mem_cons.1 hq with rfl | hq
                    · simp only; omega
                    · obtain rfl := List.mem_singleton.1 hq
                      simp only; omega)⟩ ?_
                  refine run_asg (v := .string ⟨#[]⟩) (show opAt (opsOf Tryz.f19 5) 11 = some (some 7, .assign (.const (.string ⟨#[]⟩)), none) from by kernel_rfl) (by kernel_rfl) (by kernel_rfl) (by kernel_rfl) ?_
                  refine run_done ?_
                  simp only [putAll, Act.put, List.setIfInBounds_toArray, List.set_cons_zero, List.set_cons_succ]
                  have XF := Lib.hid (show ariV (some 6) VA VB = mkN 2 (itF (fun i => quoI (items0.getD (i % items0.length) noI) (items1.getD (i % items1.length) noI)) (recN items0.length items1.length)) (namesR (recN items0.length items1.length) names0 names1) from by
                    have la : lenV k0 items0.length parts0.length = items0.length := len_counts (by rw [hVA]; exact hv.1) (by rw [hVA]; exact hcc.1)
                    have lb : lenV k1 items1.length parts1.length = items1.length := len_counts (by rw [hVB]; exact hv.2) (by rw [hVB]; exact hcc.2)
                    have hN : (lgcN VA VB).toNat = recN items0.length items1.length := by rw [← EA.out, ← EB.out]; exact size_rec hnn
                    have nA : namesV VA = names0 := by rw [← hVA]; rfl
                    have nB : namesV VB = names1 := by rw [← hVB]; rfl
                    have iA : itemsV VA = items0 := by rw [← hVA]; rfl
                    have iB : itemsV VB = items1 := by rw [← hVB]; rfl
                    rw [XV.out.1, hN, EA.out, EB.out, nA, nB, iA, iB, names_same (by have := FA.h_names; rw [la] at this; exact this) (by have := FB.h_names; rw [lb] at this; exact this)]
                    rfl)
                  obtain ⟨a', c', Fi, e, o1, n1, r1, c1⟩ := OI.out
                  obtain ⟨na, nc, Fn, e2, o2, n2, r2, c2⟩ := CP.out
                  simp only [Value.slice.injEq] at e e2
                  obtain ⟨rfl, rfl, rfl⟩ := e
                  obtain ⟨rfl, rfl, rfl⟩ := e2
                  have FIN := Lib.hid (own_pair (k := 2) (o1.kept (fun b hb => BN.out.block b (r1 b hb).2)) n1 r1 c1 o2 n2 r2 c2 IR0.out BN.out.size)
                  have hr5 : w.heap.size + 1 + 1 < w4.heap.size := (Array.getElem?_eq_some_iff.1 KR4.out).1
                  go_wp2
                  rw [EI.out, XF.out, XS.out]
                  exact vec_ret0S rfl rfl rfl rfl (row_set KR.out) ⟨_, rfl, (FIN.out.row (show w.heap.size + 1 + 1 < w4.heap.size from hr5)).wide (show w.heap.size ≤ w4.heap.size by omega) (row_size _ _ _), below_row H.out.1 (show w.heap.size ≤ w.heap.size + 1 + 1 by omega) _⟩
                · have XX := Lib.hid (ariV_no (oi := some 6) (a := VA) (b := VB) hp)
                  obtain ⟨R, hR⟩ : ∃ R, prbB true VA VB nonNumB = R := ⟨_, rfl⟩
                  rw [hR] at hp XS ⊢
                  have hRb : (R.toList == []) = false := by have h := str_not hp; rw [ByteArray.toList_eq ⟨#[]⟩] at h; exact h
                  clear hp hR
                  obtain ⟨z0, z1, z2, z3, z4, z5, z6, z7⟩ := vec8 KR.out
                  obtain ⟨f0, f1, f2, f3, f4, f5, f6, f7⟩ := free8 KR.out
                  go_wp2
                  rw [EI.out, XX.out, XS.out]
                  exact vec_endS rfl rfl rfl rfl KR.out (zeroS _ w _ (put8_below B4.out (show w.heap.size ≤ w.heap.size + 1 + 1 by omega)))
              ·
                have EI := Lib.hid (idx_no h_0 h_1 h_2 h_3 h_4 h_5 h_6)
                have f0 : (op == (⟨#[43]⟩ : ByteArray)) = false := bytes_ne h_0
                have f1 : (op == (⟨#[45]⟩ : ByteArray)) = false := bytes_ne h_1
                have f2 : (op == (⟨#[42]⟩ : ByteArray)) = false := bytes_ne h_2
                have f3 : (op == (⟨#[47]⟩ : ByteArray)) = false := bytes_ne h_3
                have f4 : (op == (⟨#[94]⟩ : ByteArray)) = false := bytes_ne h_4
                have f5 : (op == (⟨#[37, 37]⟩ : ByteArray)) = false := bytes_ne h_5
                have f6 : (op == (⟨#[37, 47, 37]⟩ : ByteArray)) = false := bytes_ne h_6
                have lk := run_look_no (P := Tryz.prog) (s := op) (z := .nilFunc) Tryz.underlying68 Tryz.underlying9 MP.out (by simp [ariTab, Instr.findNow, Instr.sameNow, f0, f1, f2, f3, f4, f5, f6]) (by kernel_rfl)
                clear f0 f1 f2 f3 f4 f5 f6 h_0 h_1 h_2 h_3 h_4 h_5 h_6
                have XS := Lib.hid (show ariS none VA VB = prbB false VA VB nonNumB from ariS_prb none VA VB)
                have hp : prbB false VA VB nonNumB ≠ ⟨#[]⟩ := by
                  unfold prbB
                  cases bB (ValidV VA ∧ ValidV VB)
                  · exact (by decide : badB ≠ ⟨#[]⟩)
                  · exact (by decide : unkB ≠ ⟨#[]⟩)
                have XX := Lib.hid (ariV_no (oi := none) (a := VA) (b := VB) hp)
                go_wp2_with fail
                refine (PB.out w2 B2.out false).mono ?_
                rintro e w4 ⟨rfl, b⟩
                have B4 := Lib.hid (below_then B2.out b)
                have KR := Lib.hid (blk_below b KR.out)
                clear b ka0 ka1 ka2 ka3 ka4 ka5 ka6 ka7 kb0 kb1 kb2 kb3 kb4 kb5 kb6 kb7 lk
                obtain ⟨R, hR⟩ : ∃ R, prbB false VA VB nonNumB = R := ⟨_, rfl⟩
                rw [hR] at hp XS ⊢
                have hRb : (R.toList == []) = false := by have h := str_not hp; rw [ByteArray.toList_eq ⟨#[]⟩] at h; exact h
                clear hp hR
                obtain ⟨z0, z1, z2, z3, z4, z5, z6, z7⟩ := vec8 KR.out
                obtain ⟨f0, f1, f2, f3, f4, f5, f6, f7⟩ := free8 KR.out
                go_wp2
                rw [EI.out, XX.out, XS.out]
                exact vec_endS rfl rfl rfl rfl KR.out (zeroS _ w _ (put8_below B4.out (show w.heap.size ≤ w.heap.size + 1 + 1 by omega)))
end Go.Proofs.YtjpdnabfpiengaaGreat

/- The reference's differences (the region draws its order). -/
namespace Go.Proofs.YtjpdnabfpiengaaGreat
set_option maxRecDepth 100000
open Go.RowKit
set_option linter.unusedVariables false

set_option maxHeartbeats 2000000 in
theorem specSub (x y : It) (w : World) (hx : x.t.size ≤ 9223372036854775807) (hy : y.t.size ≤ 9223372036854775807) :
    Calls Tryz.prog 53 #[.agg #[.int .i64 x.n, .int .i64 x.d, .string x.t], .agg #[.int .i64 y.n, .int .i64 y.d, .string y.t]] w fun e w' => e = .returned (.agg #[.int .i64 (subI x y).n, .int .i64 (subI x y).d, .string (subI x y).t]) ∧ Below w.heap.size w w' := by
  have X := Lib.hid (show subI x y = addI x (negI y) from rfl)
  have ht : (negI y).t.size ≤ 9223372036854775807 := by rw [negI_t]; decide
  obtain ⟨z, hz⟩ : ∃ z, negI y = z := ⟨_, rfl⟩
  have C := Lib.hid (hz ▸ specNeg y)
  rw [hz] at X ht
  clear hz
  have H := Lib.hid ht
  clear ht
  go_enter Tryz.func53, Tryz.ntmps53
  go_wp2
  go_region_with (first
    | (go_at_call 79; refine (C.out _ hy).mono ?_; rintro e w1 ⟨rfl, hb⟩; obtain ⟨hc, hf⟩ := bcell hb; have hz : w.heap.size + 2 < w1.heap.size := (by have := hb.size; simp at this; omega); have B1 := Lib.hid (below_then (below_drew' (below3 w _ _ _)) hb); have G := Lib.hid (blk_below (g := w.heap.size + 2) hb (blk_drew (blk_new _ _ (by simp)))); clear hb)
    | (go_at_call 52; refine (specAdd x z _ hx H.out).mono ?_; rintro e w2 ⟨rfl, hb⟩; obtain ⟨hc2, hf2⟩ := bcell hb; have B2 := Lib.hid (below_then B1.out hb); have G2 := Lib.hid (blk_below hb G.out); clear hb))
  all_goals
    go_wp2
    rw [X.out]
    exact item_ret rfl rfl rfl G2.out ⟨rfl, below_three B2.out (by omega) _ _ _⟩
end Go.Proofs.YtjpdnabfpiengaaGreat

/- PowerOf, the reference's. -/
namespace Go.Proofs.YtjpdnabfpiengaaGreat
set_option maxRecDepth 100000
open Go.RowKit
set_option linter.unusedVariables false

/-- Where the four blocks of the reference's PowerOf stand behind k rounds. -/
def PowAtS (w w2 : World) (x y : It) (k : Nat) (v : World) : Prop :=
  Below w.heap.size w v ∧ w2.heap.size < v.heap.size ∧
  v.heap[w.heap.size]? = some (.cells #[.int .i64 x.n, .int .i64 x.d, .string x.t] 62 (0, 0)) ∧ v.heap[w.heap.size + 1]? = some (.cells #[.int .i64 y.n, .int .i64 y.d, .string y.t] 62 (0, 0)) ∧ v.heap[w.heap.size + 2]? = some (.cells #[.int .i64 0, .int .i64 0, .string ⟨#[]⟩] 62 (0, 0)) ∧
  v.heap[w2.heap.size]? = some (.cells #[.int .i64 (powN x k).n, .int .i64 (powN x k).d, .string (powN x k).t] 62 (0, 0))

set_option maxHeartbeats 4000000 in
theorem specPow (x y : It) (w : World) (hx : x.t.size ≤ 9223372036854775807) (hy : y.t.size ≤ 9223372036854775807) :
    Calls Tryz.prog 56 #[.agg #[.int .i64 x.n, .int .i64 x.d, .string x.t], .agg #[.int .i64 y.n, .int .i64 y.d, .string y.t]] w fun e w' => e = .returned (.agg #[.int .i64 (powI x y).n, .int .i64 (powI x y).d, .string (powI x y).t]) ∧ Below w.heap.size w w' := by
  cases h : isN x
  · have X := Lib.hid (pow_no (powOk_b (y := y) (not_both1 h)))
    have NX := Lib.hid (show isN ⟨x.n, x.d, x.t⟩ = false from h)
    clear h
    go_enter Tryz.func56, Tryz.ntmps56
    go_wp2_with fail
    refine (specNumNo x.n x.d x.t _ hx NX.out).mono ?_
    rintro e w1 ⟨rfl, hb⟩
    obtain ⟨hc, hf⟩ := bcell hb
    have W1 := Lib.hid hb
    have B1 := Lib.hid (below_then (below3 w _ _ _) hb)
    have G1 := Lib.hid (blk_below (g := w.heap.size + 2) hb (blk_new _ _ (by simp)))
    have hz : w.heap.size + 2 < w1.heap.size := by have := hb.size; simp at this; omega
    clear hb
    go_wp2
    rw [X.out]
    exact item_ret rfl rfl rfl G1.out ⟨rfl, below_three B1.out (by omega) _ _ _⟩
  · cases k : isN y
    · have X := Lib.hid (pow_no (powOk_b (x := x) (not_both2 k)))
      have NX := Lib.hid (show isN ⟨x.n, x.d, x.t⟩ = true from h)
      have NY := Lib.hid (show isN ⟨y.n, y.d, y.t⟩ = false from k)
      clear h k
      go_enter Tryz.func56, Tryz.ntmps56
      go_wp2_with fail
      refine (specNumYes x.n x.d x.t _ hx NX.out).mono ?_
      rintro e w1 ⟨rfl, hb⟩
      obtain ⟨hc, hf⟩ := bcell hb
      have W1 := Lib.hid hb
      have B1 := Lib.hid (below_then (below3 w _ _ _) hb)
      have G1 := Lib.hid (blk_below (g := w.heap.size + 2) hb (blk_new _ _ (by simp)))
      have hz : w.heap.size + 2 < w1.heap.size := by have := hb.size; simp at this; omega
      clear hb
      go_wp2_with fail
      refine (specNumNo y.n y.d y.t _ hy NY.out).mono ?_
      rintro e w2 ⟨rfl, hb⟩
      have W2 := Lib.hid (W1.out.trans (hb.mono W1.out.size))
      clear hc hf
      obtain ⟨hc2, hf2⟩ := bcell W2.out
      have B2 := Lib.hid (below_then B1.out hb)
      have G2 := Lib.hid (blk_below hb G1.out)
      have hz2 : w.heap.size + 2 < w2.heap.size := by have := hb.size; omega
      clear hb
      go_wp2
      rw [X.out]
      exact item_ret rfl rfl rfl G2.out ⟨rfl, below_three B2.out (by omega) _ _ _⟩
    · have hB : both x y = true := both_iff.2 ⟨h, k⟩
      have yn := isN_iff.1 k
      have y0 : -999999999 ≤ y.n := yn.2.2.2.1
      have y1 : y.n ≤ 999999999 := yn.2.2.2.2.1
      clear yn
      have NX := Lib.hid (show isN ⟨x.n, x.d, x.t⟩ = true from h)
      have NY := Lib.hid (show isN ⟨y.n, y.d, y.t⟩ = true from k)
      by_cases d : y.d = 1
      · by_cases r : y.n < -20 ∨ 20 < y.n
        · have X := Lib.hid (pow_no (x := x) (powOk_n r))
          have R := Lib.hid r
          have c0 : 1 ≤ y.d := by omega
          have c1 : y.d ≤ 1 := by omega
          clear h k hB d r
          go_enter Tryz.func56, Tryz.ntmps56
          go_wp2_with fail
          refine (specNumYes x.n x.d x.t _ hx NX.out).mono ?_
          rintro e w1 ⟨rfl, hb⟩
          obtain ⟨hc, hf⟩ := bcell hb
          have W1 := Lib.hid hb
          have B1 := Lib.hid (below_then (below3 w _ _ _) hb)
          have G1 := Lib.hid (blk_below (g := w.heap.size + 2) hb (blk_new _ _ (by simp)))
          have hz : w.heap.size + 2 < w1.heap.size := by have := hb.size; simp at this; omega
          clear hb
          go_wp2_with fail
          refine (specNumYes y.n y.d y.t _ hy NY.out).mono ?_
          rintro e w2 ⟨rfl, hb⟩
          have W2 := Lib.hid (W1.out.trans (hb.mono W1.out.size))
          clear hc hf
          obtain ⟨hc2, hf2⟩ := bcell W2.out
          have B2 := Lib.hid (below_then B1.out hb)
          have G2 := Lib.hid (blk_below hb G1.out)
          have hz2 : w.heap.size + 2 < w2.heap.size := by have := hb.size; omega
          clear hb
          go_wp2_with fail
          refine (inNo y.n (-20) 20 _ R.out).mono ?_
          rintro e w' ⟨rfl, rfl⟩
          go_wp2
          rw [X.out]
          exact item_ret rfl rfl rfl G2.out ⟨rfl, below_three B2.out (by omega) _ _ _⟩
        · have n0 : -20 ≤ y.n := by omega
          have n1 : y.n ≤ 20 := by omega
          have O := Lib.hid (powOk_yes hB d n0 n1)
          have c0 : 1 ≤ y.d := by omega
          have c1 : y.d ≤ 1 := by omega
          clear h k hB d r
          have PS := Lib.hid (powN_small x)
          have HX := Lib.hid hx
          obtain ⟨m, hm⟩ : ∃ m, y.n.natAbs = m := ⟨_, rfl⟩
          have AB := Lib.hid (fun W => hm ▸ specAbs y.n W (by omega) (by omega))
          by_cases s : y.n < 0
          · have X := Lib.hid (show powI x y = divI oneI (powN x m) by rw [pow_neg O.out s, hm])
            have e2 : m ≤ 20 := by omega
            clear hm
            go_enter Tryz.func56, Tryz.ntmps56
            go_wp2_with fail
            refine (specNumYes x.n x.d x.t _ hx NX.out).mono ?_
            rintro e w1 ⟨rfl, hb⟩
            obtain ⟨hc, hf⟩ := bcell hb
            have W1 := Lib.hid hb
            have B1 := Lib.hid (below_then (below3 w _ _ _) hb)
            have G1 := Lib.hid (blk_below (g := w.heap.size + 2) hb (blk_new _ _ (by simp)))
            have hz : w.heap.size + 2 < w1.heap.size := by have := hb.size; simp at this; omega
            clear hb
            go_wp2_with fail
            refine (specNumYes y.n y.d y.t _ hy NY.out).mono ?_
            rintro e w2 ⟨rfl, hb⟩
            have W2 := Lib.hid (W1.out.trans (hb.mono W1.out.size))
            clear hc hf
            obtain ⟨hc2, hf2⟩ := bcell W2.out
            have B2 := Lib.hid (below_then B1.out hb)
            have G2 := Lib.hid (blk_below hb G1.out)
            have hz2 : w.heap.size + 2 < w2.heap.size := by have := hb.size; omega
            clear hb
            have GX := Lib.hid (blk_below (g := w.heap.size) W2.out (blk_old (blk_old (blk_new _ _ rfl))))
            have GY := Lib.hid (blk_below (g := w.heap.size + 1) W2.out (blk_old (blk_new _ _ (by simp))))
            obtain ⟨⟨cy0, cy1, cy2⟩, _, _, _⟩ := three GY.out
            have hz1 : w.heap.size + 1 < w2.heap.size := by omega
            have hz0 : w.heap.size < w2.heap.size := by omega
            clear hc2 hf2
            go_wp2_with fail
            refine (inYes y.n (-20) 20 _ n0 n1).mono ?_
            rintro e w' ⟨rfl, rfl⟩
            go_wp2
            go_loopw [6] (fun i wr => ∃ k : Nat, k ≤ m ∧ i = .int .i64 k ∧ PowAtS w w2 x y k wr) (fun i _ => m - (intOf i).toNat)
            case atStart => exact ⟨0, by omega, rfl, below_then B2.out (below1 w2 _), by simp, blk_old GX.out, blk_old GY.out, blk_old G2.out, blk_new _ _ rfl⟩
            case round =>
              rename_i wr
              obtain ⟨k, hk, rfl, P1, P2, P3, P4, P5, P7⟩ := hrel
              have B3 := Lib.hid P1
              have KX := Lib.hid P3
              have KY := Lib.hid P4
              have KR := Lib.hid P5
              have KP := Lib.hid P7
              clear P1 P3 P4 P5 P7 cy0 cy1 cy2
              have z0 : w.heap.size < wr.heap.size := by omega
              have z1 : w.heap.size + 1 < wr.heap.size := by omega
              have z2 : w.heap.size + 2 < wr.heap.size := by omega
              obtain ⟨⟨cx0, cx1, cx2⟩, _, _, _⟩ := three KX.out
              obtain ⟨⟨cy0, cy1, cy2⟩, _, _, _⟩ := three KY.out
              obtain ⟨⟨cp0, cp1, cp2⟩, _, _, _⟩ := three KP.out
              by_cases hlt : k < m
              · go_wp2_with fail
                refine (AB.out _).mono ?_
                rintro e w' ⟨rfl, rfl⟩
                go_wp2_with fail
                refine (specMul (powN x k) x _ (PS.out k) HX.out).mono ?_
                rintro e w3 ⟨rfl, hb⟩
                have MX := Lib.hid (blk_below hb KX.out)
                have MY := Lib.hid (blk_below hb KY.out)
                have MR := Lib.hid (blk_below hb KR.out)
                have MP := Lib.hid (blk_below hb KP.out)
                have B4 := Lib.hid (below_then B3.out hb)
                have hs := hb.size
                clear hb cx0 cx1 cx2 cy0 cy1 cy2 cp0 cp1 cp2
                obtain ⟨⟨cp0, cp1, cp2⟩, fp0, fp1, fp2⟩ := three MP.out
                go_wp2
                go_roundw
                case rel => exact ⟨k + 1, by omega, by go_num, below_three B4.out (by omega) _ _ _, by simp; omega, blk_set3' MX.out (by omega), blk_set3' MY.out (by omega), blk_set3' MR.out (by omega), cells_set3 MP.out⟩
                case measure => simp [intOf]; omega
              · have hkm : k = m := by omega
                subst hkm
                clear hlt hk
                go_wp2_with fail
                refine (AB.out _).mono ?_
                rintro e w' ⟨rfl, rfl⟩
                go_wp2_with fail
                refine (specDiv oneI (powN x k) _ one_small (PS.out k)).mono ?_
                rintro e w3 ⟨rfl, hb⟩
                have MR := Lib.hid (blk_below hb KR.out)
                have B4 := Lib.hid (below_then B3.out hb)
                clear hb cx0 cx1 cx2 cy0 cy1 cy2 cp0 cp1 cp2
                obtain ⟨⟨cp0, cp1, cp2⟩, fp0, fp1, fp2⟩ := three MR.out
                go_wp2
                rw [X.out]
                exact item_ret rfl rfl rfl MR.out ⟨rfl, below_three B4.out (by omega) _ _ _⟩

          · have X := Lib.hid (show powI x y = powN x m by rw [pow_pos O.out s, hm])
            have e2 : m ≤ 20 := by omega
            clear hm
            go_enter Tryz.func56, Tryz.ntmps56
            go_wp2_with fail
            refine (specNumYes x.n x.d x.t _ hx NX.out).mono ?_
            rintro e w1 ⟨rfl, hb⟩
            obtain ⟨hc, hf⟩ := bcell hb
            have W1 := Lib.hid hb
            have B1 := Lib.hid (below_then (below3 w _ _ _) hb)
            have G1 := Lib.hid (blk_below (g := w.heap.size + 2) hb (blk_new _ _ (by simp)))
            have hz : w.heap.size + 2 < w1.heap.size := by have := hb.size; simp at this; omega
            clear hb
            go_wp2_with fail
            refine (specNumYes y.n y.d y.t _ hy NY.out).mono ?_
            rintro e w2 ⟨rfl, hb⟩
            have W2 := Lib.hid (W1.out.trans (hb.mono W1.out.size))
            clear hc hf
            obtain ⟨hc2, hf2⟩ := bcell W2.out
            have B2 := Lib.hid (below_then B1.out hb)
            have G2 := Lib.hid (blk_below hb G1.out)
            have hz2 : w.heap.size + 2 < w2.heap.size := by have := hb.size; omega
            clear hb
            have GX := Lib.hid (blk_below (g := w.heap.size) W2.out (blk_old (blk_old (blk_new _ _ rfl))))
            have GY := Lib.hid (blk_below (g := w.heap.size + 1) W2.out (blk_old (blk_new _ _ (by simp))))
            obtain ⟨⟨cy0, cy1, cy2⟩, _, _, _⟩ := three GY.out
            have hz1 : w.heap.size + 1 < w2.heap.size := by omega
            have hz0 : w.heap.size < w2.heap.size := by omega
            clear hc2 hf2
            go_wp2_with fail
            refine (inYes y.n (-20) 20 _ n0 n1).mono ?_
            rintro e w' ⟨rfl, rfl⟩
            go_wp2
            go_loopw [6] (fun i wr => ∃ k : Nat, k ≤ m ∧ i = .int .i64 k ∧ PowAtS w w2 x y k wr) (fun i _ => m - (intOf i).toNat)
            case atStart => exact ⟨0, by omega, rfl, below_then B2.out (below1 w2 _), by simp, blk_old GX.out, blk_old GY.out, blk_old G2.out, blk_new _ _ rfl⟩
            case round =>
              rename_i wr
              obtain ⟨k, hk, rfl, P1, P2, P3, P4, P5, P7⟩ := hrel
              have B3 := Lib.hid P1
              have KX := Lib.hid P3
              have KY := Lib.hid P4
              have KR := Lib.hid P5
              have KP := Lib.hid P7
              clear P1 P3 P4 P5 P7 cy0 cy1 cy2
              have z0 : w.heap.size < wr.heap.size := by omega
              have z1 : w.heap.size + 1 < wr.heap.size := by omega
              have z2 : w.heap.size + 2 < wr.heap.size := by omega
              obtain ⟨⟨cx0, cx1, cx2⟩, _, _, _⟩ := three KX.out
              obtain ⟨⟨cy0, cy1, cy2⟩, _, _, _⟩ := three KY.out
              obtain ⟨⟨cp0, cp1, cp2⟩, _, _, _⟩ := three KP.out
              by_cases hlt : k < m
              · go_wp2_with fail
                refine (AB.out _).mono ?_
                rintro e w' ⟨rfl, rfl⟩
                go_wp2_with fail
                refine (specMul (powN x k) x _ (PS.out k) HX.out).mono ?_
                rintro e w3 ⟨rfl, hb⟩
                have MX := Lib.hid (blk_below hb KX.out)
                have MY := Lib.hid (blk_below hb KY.out)
                have MR := Lib.hid (blk_below hb KR.out)
                have MP := Lib.hid (blk_below hb KP.out)
                have B4 := Lib.hid (below_then B3.out hb)
                have hs := hb.size
                clear hb cx0 cx1 cx2 cy0 cy1 cy2 cp0 cp1 cp2
                obtain ⟨⟨cp0, cp1, cp2⟩, fp0, fp1, fp2⟩ := three MP.out
                go_wp2
                go_roundw
                case rel => exact ⟨k + 1, by omega, by go_num, below_three B4.out (by omega) _ _ _, by simp; omega, blk_set3' MX.out (by omega), blk_set3' MY.out (by omega), blk_set3' MR.out (by omega), cells_set3 MP.out⟩
                case measure => simp [intOf]; omega
              · have hkm : k = m := by omega
                subst hkm
                clear hlt hk
                go_wp2_with fail
                refine (AB.out _).mono ?_
                rintro e w' ⟨rfl, rfl⟩
                obtain ⟨⟨cr0, cr1, cr2⟩, fr0, fr1, fr2⟩ := three KR.out
                go_wp2
                rw [X.out]
                exact item_ret rfl rfl rfl KR.out ⟨rfl, below_three B3.out (by omega) _ _ _⟩

      · have X := Lib.hid (pow_no (x := x) (powOk_d d))
        clear h k hB
        go_enter Tryz.func56, Tryz.ntmps56
        go_wp2_with fail
        refine (specNumYes x.n x.d x.t _ hx NX.out).mono ?_
        rintro e w1 ⟨rfl, hb⟩
        obtain ⟨hc, hf⟩ := bcell hb
        have W1 := Lib.hid hb
        have B1 := Lib.hid (below_then (below3 w _ _ _) hb)
        have G1 := Lib.hid (blk_below (g := w.heap.size + 2) hb (blk_new _ _ (by simp)))
        have hz : w.heap.size + 2 < w1.heap.size := by have := hb.size; simp at this; omega
        clear hb
        go_wp2_with fail
        refine (specNumYes y.n y.d y.t _ hy NY.out).mono ?_
        rintro e w2 ⟨rfl, hb⟩
        have W2 := Lib.hid (W1.out.trans (hb.mono W1.out.size))
        clear hc hf
        obtain ⟨hc2, hf2⟩ := bcell W2.out
        have B2 := Lib.hid (below_then B1.out hb)
        have G2 := Lib.hid (blk_below hb G1.out)
        have hz2 : w.heap.size + 2 < w2.heap.size := by have := hb.size; omega
        clear hb
        go_wp2
        rw [X.out]
        exact item_ret rfl rfl rfl G2.out ⟨rfl, below_three B2.out (by omega) _ _ _⟩
end Go.Proofs.YtjpdnabfpiengaaGreat

/- The reference's l5Apply. -/
namespace Go.Proofs.YtjpdnabfpiengaaGreat
open Go.RowKit
set_option maxRecDepth 100000
set_option linter.unusedVariables false

set_option maxHeartbeats 2000000 in
theorem specApply (i : Nat) (hi : i < 7) (x y : It) (w : World) (hx : x.t.size ≤ 9223372036854775807) (hy : y.t.size ≤ 9223372036854775807) :
    Calls Tryz.prog 37 #[.string (opA i), .agg #[.int .i64 x.n, .int .i64 x.d, .string x.t], .agg #[.int .i64 y.n, .int .i64 y.d, .string y.t]] w fun e w' => e = .returned (.agg #[.int .i64 (fnA i x y).n, .int .i64 (fnA i x y).d, .string (fnA i x y).t]) ∧ Below w.heap.size w w' := by
  obtain ⟨w1, hw1⟩ : ∃ W, ((w.alloc (.cells #[.int .i64 x.n, .int .i64 x.d, .string x.t] 62)).alloc (.cells #[.int .i64 y.n, .int .i64 y.d, .string y.t] 62)).alloc (.cells #[.int .i64 0, .int .i64 0, .string ⟨#[]⟩] 62) = W := ⟨_, rfl⟩
  have hsz2 : ((w.alloc (.cells #[.int .i64 x.n, .int .i64 x.d, .string x.t] 62)).alloc (.cells #[.int .i64 y.n, .int .i64 y.d, .string y.t] 62)).heap.size = w.heap.size + 1 + 1 := by simp
  have B1 := Lib.hid (show Below w.heap.size w w1 from hw1 ▸ below3 w _ _ _)
  have K2 := Lib.hid (show w1.heap[w.heap.size + 1 + 1]? = some (.cells #[.int .i64 0, .int .i64 0, .string ⟨#[]⟩] 62 (0, 0)) from by rw [← hw1]; exact blk_new _ _ hsz2.symm)
  have EW := Lib.hid hw1
  have HX := Lib.hid hx
  have HY := Lib.hid hy
  clear hw1 hsz2 hx hy
  rcases (show i = 0 ∨ i = 1 ∨ i = 2 ∨ i = 3 ∨ i = 4 ∨ i = 5 ∨ i = 6 by omega) with rfl | rfl | rfl | rfl | rfl | rfl | rfl
  · show Calls Tryz.prog 37 #[.string ⟨#[43]⟩, .agg #[.int .i64 x.n, .int .i64 x.d, .string x.t], .agg #[.int .i64 y.n, .int .i64 y.d, .string y.t]] w fun e w' => e = .returned (.agg #[.int .i64 (addI x y).n, .int .i64 (addI x y).d, .string (addI x y).t]) ∧ Below w.heap.size w w'
    go_enter Tryz.func37, Tryz.ntmps37
    go_wp2_with fail
    rw [EW.out]
    refine (specAdd x y _ HX.out HY.out).mono ?_
    rintro e w2 ⟨rfl, b⟩
    have B2 := Lib.hid (below_then B1.out b)
    have K2 := Lib.hid (blk_below b K2.out)
    clear b
    obtain ⟨⟨z0, z1, z2⟩, f0, f1, f2⟩ := three K2.out
    go_wp2
    exact item_ret rfl rfl rfl K2.out ⟨rfl, below_three B2.out (by omega) _ _ _⟩
  · show Calls Tryz.prog 37 #[.string ⟨#[45]⟩, .agg #[.int .i64 x.n, .int .i64 x.d, .string x.t], .agg #[.int .i64 y.n, .int .i64 y.d, .string y.t]] w fun e w' => e = .returned (.agg #[.int .i64 (subI x y).n, .int .i64 (subI x y).d, .string (subI x y).t]) ∧ Below w.heap.size w w'
    go_enter Tryz.func37, Tryz.ntmps37
    go_wp2_with fail
    rw [EW.out]
    refine (specSub x y _ HX.out HY.out).mono ?_
    rintro e w2 ⟨rfl, b⟩
    have B2 := Lib.hid (below_then B1.out b)
    have K2 := Lib.hid (blk_below b K2.out)
    clear b
    obtain ⟨⟨z0, z1, z2⟩, f0, f1, f2⟩ := three K2.out
    go_wp2
    exact item_ret rfl rfl rfl K2.out ⟨rfl, below_three B2.out (by omega) _ _ _⟩
  · show Calls Tryz.prog 37 #[.string ⟨#[42]⟩, .agg #[.int .i64 x.n, .int .i64 x.d, .string x.t], .agg #[.int .i64 y.n, .int .i64 y.d, .string y.t]] w fun e w' => e = .returned (.agg #[.int .i64 (mulI x y).n, .int .i64 (mulI x y).d, .string (mulI x y).t]) ∧ Below w.heap.size w w'
    go_enter Tryz.func37, Tryz.ntmps37
    go_wp2_with fail
    rw [EW.out]
    refine (specMul x y _ HX.out HY.out).mono ?_
    rintro e w2 ⟨rfl, b⟩
    have B2 := Lib.hid (below_then B1.out b)
    have K2 := Lib.hid (blk_below b K2.out)
    clear b
    obtain ⟨⟨z0, z1, z2⟩, f0, f1, f2⟩ := three K2.out
    go_wp2
    exact item_ret rfl rfl rfl K2.out ⟨rfl, below_three B2.out (by omega) _ _ _⟩
  · show Calls Tryz.prog 37 #[.string ⟨#[47]⟩, .agg #[.int .i64 x.n, .int .i64 x.d, .string x.t], .agg #[.int .i64 y.n, .int .i64 y.d, .string y.t]] w fun e w' => e = .returned (.agg #[.int .i64 (divI x y).n, .int .i64 (divI x y).d, .string (divI x y).t]) ∧ Below w.heap.size w w'
    go_enter Tryz.func37, Tryz.ntmps37
    go_wp2_with fail
    rw [EW.out]
    refine (specDiv x y _ HX.out HY.out).mono ?_
    rintro e w2 ⟨rfl, b⟩
    have B2 := Lib.hid (below_then B1.out b)
    have K2 := Lib.hid (blk_below b K2.out)
    clear b
    obtain ⟨⟨z0, z1, z2⟩, f0, f1, f2⟩ := three K2.out
    go_wp2
    exact item_ret rfl rfl rfl K2.out ⟨rfl, below_three B2.out (by omega) _ _ _⟩
  · show Calls Tryz.prog 37 #[.string ⟨#[94]⟩, .agg #[.int .i64 x.n, .int .i64 x.d, .string x.t], .agg #[.int .i64 y.n, .int .i64 y.d, .string y.t]] w fun e w' => e = .returned (.agg #[.int .i64 (powI x y).n, .int .i64 (powI x y).d, .string (powI x y).t]) ∧ Below w.heap.size w w'
    go_enter Tryz.func37, Tryz.ntmps37
    go_wp2_with fail
    rw [EW.out]
    refine (specPow x y _ HX.out HY.out).mono ?_
    rintro e w2 ⟨rfl, b⟩
    have B2 := Lib.hid (below_then B1.out b)
    have K2 := Lib.hid (blk_below b K2.out)
    clear b
    obtain ⟨⟨z0, z1, z2⟩, f0, f1, f2⟩ := three K2.out
    go_wp2
    exact item_ret rfl rfl rfl K2.out ⟨rfl, below_three B2.out (by omega) _ _ _⟩
  · show Calls Tryz.prog 37 #[.string ⟨#[37, 37]⟩, .agg #[.int .i64 x.n, .int .i64 x.d, .string x.t], .agg #[.int .i64 y.n, .int .i64 y.d, .string y.t]] w fun e w' => e = .returned (.agg #[.int .i64 (remI x y).n, .int .i64 (remI x y).d, .string (remI x y).t]) ∧ Below w.heap.size w w'
    go_enter Tryz.func37, Tryz.ntmps37
    go_wp2_with fail
    rw [EW.out]
    refine (specRem x y _ HX.out HY.out).mono ?_
    rintro e w2 ⟨rfl, b⟩
    have B2 := Lib.hid (below_then B1.out b)
    have K2 := Lib.hid (blk_below b K2.out)
    clear b
    obtain ⟨⟨z0, z1, z2⟩, f0, f1, f2⟩ := three K2.out
    go_wp2
    exact item_ret rfl rfl rfl K2.out ⟨rfl, below_three B2.out (by omega) _ _ _⟩
  · show Calls Tryz.prog 37 #[.string ⟨#[37, 47, 37]⟩, .agg #[.int .i64 x.n, .int .i64 x.d, .string x.t], .agg #[.int .i64 y.n, .int .i64 y.d, .string y.t]] w fun e w' => e = .returned (.agg #[.int .i64 (quoI x y).n, .int .i64 (quoI x y).d, .string (quoI x y).t]) ∧ Below w.heap.size w w'
    go_enter Tryz.func37, Tryz.ntmps37
    go_wp2_with fail
    rw [EW.out]
    refine (specQuo x y _ HX.out HY.out).mono ?_
    rintro e w2 ⟨rfl, b⟩
    have B2 := Lib.hid (below_then B1.out b)
    have K2 := Lib.hid (blk_below b K2.out)
    clear b
    obtain ⟨⟨z0, z1, z2⟩, f0, f1, f2⟩ := three K2.out
    go_wp2
    exact item_ret rfl rfl rfl K2.out ⟨rfl, below_three B2.out (by omega) _ _ _⟩
end Go.Proofs.YtjpdnabfpiengaaGreat

/- LogicOf of the reference. -/
namespace Go.Proofs.YtjpdnabfpiengaaGreat
open Go.RowKit
set_option maxRecDepth 100000
set_option linter.unusedVariables false

end Go.Proofs.YtjpdnabfpiengaaGreat
