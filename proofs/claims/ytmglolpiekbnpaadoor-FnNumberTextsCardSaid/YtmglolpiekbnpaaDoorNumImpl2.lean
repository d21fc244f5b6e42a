/- The program's arithmetic, continued: differences, quotients, floors. -/
import Derived.Test.YtmglolpiekbnpaaDoorNumImpl
namespace Go.Proofs.YtmglolpiekbnpaaDoor
set_option maxRecDepth 100000
open Go.RowKit
set_option linter.unusedVariables false

theorem infoFrac : (Tryd.prog.info? 57).map (·.size) = some 2 := by kernel_rfl
theorem frac_ret0 {fn : Func} {R : Ending → World → Prop} {act : Act} {w : World} {g : Nat} {p : Tmp} {a b : Value} {t : TypeId} {fr : Nat × Nat}
    (hfn : fn.results = #[.cell p 57]) (hp : act.tmps.getD p undef = .pointer (some ⟨g, 0, none⟩)) (hd : act.defers = []) (hg : w.heap[g]? = some (.cells #[a, b] t fr))
    (hR : R (.returned (.agg #[a, b])) w) : bodyPost Tryd.prog fn R .ret act w :=
  bodyPost_ret (results_cell_row hfn _ _ g t #[a, b] fr _ hp hg Tryd.underlying57 rfl infoFrac) hd hR

set_option maxHeartbeats 1000000 in
theorem implRatio (x y : It) (w : World) (P : (-999999998000000001 ≤ x.n * y.d ∧ x.n * y.d ≤ 999999998000000001) ∧ (-999999998000000001 ≤ x.d * y.n ∧ x.d * y.n ≤ 999999998000000001)) :
    Calls Tryd.prog 45 #[.agg #[.int .i64 x.n, .int .i64 x.d, .string x.t], .agg #[.int .i64 y.n, .int .i64 y.d, .string y.t]] w fun e w' => e = .returned (.agg #[.int .i64 (x.n * y.d), .int .i64 (x.d * y.n)]) ∧ Below w.heap.size w w' := by
  have a0 := P.1.1
  have a1 := P.1.2
  have b0 := P.2.1
  have b1 := P.2.2
  clear P
  go_enter Tryd.func45, Tryd.ntmps45
  go_wp2
  exact frac_ret0 rfl rfl rfl (blk_new _ _ (by simp)) ⟨rfl, below3 w _ _ _⟩

set_option maxHeartbeats 1000000 in
theorem implDiv (x y : It) (w : World) (hx : x.t.size ≤ 9223372036854775807) (hy : y.t.size ≤ 9223372036854775807) :
    Calls Tryd.prog 30 #[.agg #[.int .i64 x.n, .int .i64 x.d, .string x.t], .agg #[.int .i64 y.n, .int .i64 y.d, .string y.t]] w fun e w' => e = .returned (.agg #[.int .i64 (divI x y).n, .int .i64 (divI x y).d, .string (divI x y).t]) ∧ Below w.heap.size w w' := by
  cases h : both x y
  · have X := Lib.hid (show divI x y = noI by unfold divI; simp [h])
    have N := Lib.hid h
    clear h
    go_enter Tryd.func30, Tryd.ntmps30
    go_wp2_with fail
    refine (areNo x y _ hx hy N.out).mono ?_
    rintro e w1 ⟨rfl, hb⟩
    obtain ⟨hc, hf⟩ := bcell hb
    have B1 := Lib.hid (below_then (below3 w _ _ _) hb)
    have G := Lib.hid (blk_below (g := w.heap.size + 2) hb (blk_new _ _ (by simp)))
    clear hb
    go_wp2
    rw [X.out]
    exact item_ret rfl rfl rfl G.out ⟨rfl, below_three B1.out (by omega) _ _ _⟩
  · have P := parts_in (both_iff.1 h).1 (both_iff.1 h).2
    have R := Lib.hid (implRatio x y)
    have K := Lib.hid (show (-9223372036854775808 ≤ x.n * y.d ∧ x.n * y.d ≤ 9223372036854775807) ∧ (-9223372036854775808 ≤ x.d * y.n ∧ x.d * y.n ≤ 9223372036854775807) by omega)
    have PP := Lib.hid (show (-999999998000000001 ≤ x.n * y.d ∧ x.n * y.d ≤ 999999998000000001) ∧ (-999999998000000001 ≤ x.d * y.n ∧ x.d * y.n ≤ 999999998000000001) by omega)
    have X := Lib.hid (div_mk h)
    have XT := Lib.hid (divI_t x y)
    have N := Lib.hid h
    clear h P
    go_enter Tryd.func30, Tryd.ntmps30
    go_wp2_with fail
    refine (areYes x y _ hx hy N.out).mono ?_
    rintro e w1 ⟨rfl, hb⟩
    obtain ⟨hc, hf⟩ := bcell hb
    have B1 := Lib.hid (below_then (below3 w _ _ _) hb)
    have G := Lib.hid (blk_below (g := w.heap.size + 2) hb (blk_new _ _ (by simp)))
    have hz : w.heap.size + 2 < w1.heap.size := by have := hb.size; simp at this; omega
    clear hb
    go_wp2_with fail
    refine (R.out _ PP.out).mono ?_
    rintro e w2 ⟨rfl, hb⟩
    obtain ⟨hc2, hf2⟩ := bcell hb
    have B2 := Lib.hid (below_then B1.out hb)
    have G2 := Lib.hid (blk_below hb G.out)
    have hz2 : w.heap.size + 2 < w2.heap.size := by have := hb.size; omega
    clear hb
    go_wp2_with fail
    refine (fracNumber (x.n * y.d) (x.d * y.n) _ K.out.1 K.out.2).mono ?_
    rintro e w3 ⟨rfl, hb⟩
    obtain ⟨hc3, hf3⟩ := bcell hb
    have B3 := Lib.hid (below_then B2.out hb)
    have G3 := Lib.hid (blk_below hb G2.out)
    clear hb
    rw [X.out]
    go_wp2
    rw [XT.out]
    exact item_ret rfl rfl rfl G3.out ⟨rfl, below_three B3.out (by omega) _ _ _⟩

end Go.Proofs.YtmglolpiekbnpaaDoor
