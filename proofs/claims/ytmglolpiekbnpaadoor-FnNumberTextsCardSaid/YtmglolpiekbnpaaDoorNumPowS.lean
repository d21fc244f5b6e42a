/- PowerOf, the reference's. -/
import Derived.Test.YtmglolpiekbnpaaDoorNumPow
import Derived.Test.YtmglolpiekbnpaaDoorNumSpec
import Derived.RegionTactic
namespace Go.Proofs.YtmglolpiekbnpaaDoor
set_option maxRecDepth 100000
open Go.RowKit
set_option linter.unusedVariables false

/-- Where the four blocks of the reference's PowerOf stand behind k rounds. -/
def PowAtS (w w2 : World) (x y : It) (k : Nat) (v : World) : Prop :=
  Below w.heap.size w v ∧ w2.heap.size < v.heap.size ∧
  v.heap[w.heap.size]? = some (.cells #[.int .i64 x.n, .int .i64 x.d, .string x.t] 25 (0, 0)) ∧ v.heap[w.heap.size + 1]? = some (.cells #[.int .i64 y.n, .int .i64 y.d, .string y.t] 25 (0, 0)) ∧ v.heap[w.heap.size + 2]? = some (.cells #[.int .i64 0, .int .i64 0, .string ⟨#[]⟩] 25 (0, 0)) ∧
  v.heap[w2.heap.size]? = some (.cells #[.int .i64 (powN x k).n, .int .i64 (powN x k).d, .string (powN x k).t] 25 (0, 0))

set_option maxHeartbeats 4000000 in
theorem specPow (x y : It) (w : World) (hx : x.t.size ≤ 9223372036854775807) (hy : y.t.size ≤ 9223372036854775807) :
    Calls Tryd.prog 12 #[.agg #[.int .i64 x.n, .int .i64 x.d, .string x.t], .agg #[.int .i64 y.n, .int .i64 y.d, .string y.t]] w fun e w' => e = .returned (.agg #[.int .i64 (powI x y).n, .int .i64 (powI x y).d, .string (powI x y).t]) ∧ Below w.heap.size w w' := by
  cases h : isN x
  · have X := Lib.hid (pow_no (powOk_b (y := y) (not_both1 h)))
    have NX := Lib.hid (show isN ⟨x.n, x.d, x.t⟩ = false from h)
    clear h
    go_enter Tryd.func12, Tryd.ntmps12
    go_wp2_with fail
    refine (specNumNo x.n x.d x.t _ hx NX.out).mono ?_
    rintro e w1 ⟨rfl, hb⟩
    obtain ⟨hc, hf⟩ := bcell hb
    have W1 := Lib.hid hb
    have B1 := Lib.hid (below_then (below3 w _ _ _) hb)
    have G1 := Lib.hid (blk_below (g := w.heap.size + 2) hb (blk_new _ _ (by simp)))
    have hz : w.heap.size + 2 < w1.heap.size := by have := hb.size; simp at this; omega
    clear hb
    go_wp2
    rw [X.out]
    exact item_ret rfl rfl rfl G1.out ⟨rfl, below_three B1.out (by omega) _ _ _⟩
  · cases k : isN y
    · have X := Lib.hid (pow_no (powOk_b (x := x) (not_both2 k)))
      have NX := Lib.hid (show isN ⟨x.n, x.d, x.t⟩ = true from h)
      have NY := Lib.hid (show isN ⟨y.n, y.d, y.t⟩ = false from k)
      clear h k
      go_enter Tryd.func12, Tryd.ntmps12
      go_wp2_with fail
      refine (specNumYes x.n x.d x.t _ hx NX.out).mono ?_
      rintro e w1 ⟨rfl, hb⟩
      obtain ⟨hc, hf⟩ := bcell hb
      have W1 := Lib.hid hb
      have B1 := Lib.hid (below_then (below3 w _ _ _) hb)
      have G1 := Lib.hid (blk_below (g := w.heap.size + 2) hb (blk_new _ _ (by simp)))
      have hz : w.heap.size + 2 < w1.heap.size := by have := hb.size; simp at this; omega
      clear hb
      go_wp2_with fail
      refine (specNumNo y.n y.d y.t _ hy NY.out).mono ?_
      rintro e w2 ⟨rfl, hb⟩
      have W2 := Lib.hid (W1.out.trans (hb.mono W1.out.size))
      clear hc hf
      obtain ⟨hc2, hf2⟩ := bcell W2.out
      have B2 := Lib.hid (below_then B1.out hb)
      have G2 := Lib.hid (blk_below hb G1.out)
      have hz2 : w.heap.size + 2 < w2.heap.size := by have := hb.size; omega
      clear hb
      go_wp2
      rw [X.out]
      exact item_ret rfl rfl rfl G2.out ⟨rfl, below_three B2.out (by omega) _ _ _⟩
    · have hB : both x y = true := both_iff.2 ⟨h, k⟩
      have yn := isN_iff.1 k
      have y0 : -999999999 ≤ y.n := yn.2.2.2.1
      have y1 : y.n ≤ 999999999 := yn.2.2.2.2.1
      clear yn
      have NX := Lib.hid (show isN ⟨x.n, x.d, x.t⟩ = true from h)
      have NY := Lib.hid (show isN ⟨y.n, y.d, y.t⟩ = true from k)
      by_cases d : y.d = 1
      · by_cases r : y.n < -20 ∨ 20 < y.n
        · have X := Lib.hid (pow_no (x := x) (powOk_n r))
          have R := Lib.hid r
          have c0 : 1 ≤ y.d := by omega
          have c1 : y.d ≤ 1 := by omega
          clear h k hB d r
          go_enter Tryd.func12, Tryd.ntmps12
          go_wp2_with fail
          refine (specNumYes x.n x.d x.t _ hx NX.out).mono ?_
          rintro e w1 ⟨rfl, hb⟩
          obtain ⟨hc, hf⟩ := bcell hb
          have W1 := Lib.hid hb
          have B1 := Lib.hid (below_then (below3 w _ _ _) hb)
          have G1 := Lib.hid (blk_below (g := w.heap.size + 2) hb (blk_new _ _ (by simp)))
          have hz : w.heap.size + 2 < w1.heap.size := by have := hb.size; simp at this; omega
          clear hb
          go_wp2_with fail
          refine (specNumYes y.n y.d y.t _ hy NY.out).mono ?_
          rintro e w2 ⟨rfl, hb⟩
          have W2 := Lib.hid (W1.out.trans (hb.mono W1.out.size))
          clear hc hf
          obtain ⟨hc2, hf2⟩ := bcell W2.out
          have B2 := Lib.hid (below_then B1.out hb)
          have G2 := Lib.hid (blk_below hb G1.out)
          have hz2 : w.heap.size + 2 < w2.heap.size := by have := hb.size; omega
          clear hb
          go_wp2_with fail
          refine (inNo y.n (-20) 20 _ R.out).mono ?_
          rintro e w' ⟨rfl, rfl⟩
          go_wp2
          rw [X.out]
          exact item_ret rfl rfl rfl G2.out ⟨rfl, below_three B2.out (by omega) _ _ _⟩
        · have n0 : -20 ≤ y.n := by omega
          have n1 : y.n ≤ 20 := by omega
          have O := Lib.hid (powOk_yes hB d n0 n1)
          have c0 : 1 ≤ y.d := by omega
          have c1 : y.d ≤ 1 := by omega
          clear h k hB d r
          have PS := Lib.hid (powN_small x)
          have HX := Lib.hid hx
          obtain ⟨m, hm⟩ : ∃ m, y.n.natAbs = m := ⟨_, rfl⟩
          have AB := Lib.hid (fun W => hm ▸ specAbs y.n W (by omega) (by omega))
          by_cases s : y.n < 0
          · have X := Lib.hid (show powI x y = divI oneI (powN x m) by rw [pow_neg O.out s, hm])
            have e2 : m ≤ 20 := by omega
            clear hm
            go_enter Tryd.func12, Tryd.ntmps12
            go_wp2_with fail
            refine (specNumYes x.n x.d x.t _ hx NX.out).mono ?_
            rintro e w1 ⟨rfl, hb⟩
            obtain ⟨hc, hf⟩ := bcell hb
            have W1 := Lib.hid hb
            have B1 := Lib.hid (below_then (below3 w _ _ _) hb)
            have G1 := Lib.hid (blk_below (g := w.heap.size + 2) hb (blk_new _ _ (by simp)))
            have hz : w.heap.size + 2 < w1.heap.size := by have := hb.size; simp at this; omega
            clear hb
            go_wp2_with fail
            refine (specNumYes y.n y.d y.t _ hy NY.out).mono ?_
            rintro e w2 ⟨rfl, hb⟩
            have W2 := Lib.hid (W1.out.trans (hb.mono W1.out.size))
            clear hc hf
            obtain ⟨hc2, hf2⟩ := bcell W2.out
            have B2 := Lib.hid (below_then B1.out hb)
            have G2 := Lib.hid (blk_below hb G1.out)
            have hz2 : w.heap.size + 2 < w2.heap.size := by have := hb.size; omega
            clear hb
            have GX := Lib.hid (blk_below (g := w.heap.size) W2.out (blk_old (blk_old (blk_new _ _ rfl))))
            have GY := Lib.hid (blk_below (g := w.heap.size + 1) W2.out (blk_old (blk_new _ _ (by simp))))
            obtain ⟨⟨cy0, cy1, cy2⟩, _, _, _⟩ := three GY.out
            have hz1 : w.heap.size + 1 < w2.heap.size := by omega
            have hz0 : w.heap.size < w2.heap.size := by omega
            clear hc2 hf2
            go_wp2_with fail
            refine (inYes y.n (-20) 20 _ n0 n1).mono ?_
            rintro e w' ⟨rfl, rfl⟩
            go_wp2
            go_loopw [6] (fun i wr => ∃ k : Nat, k ≤ m ∧ i = .int .i64 k ∧ PowAtS w w2 x y k wr) (fun i _ => m - (intOf i).toNat)
            case atStart => exact ⟨0, by omega, rfl, below_then B2.out (below1 w2 _), by simp, blk_old GX.out, blk_old GY.out, blk_old G2.out, blk_new _ _ rfl⟩
            case round =>
              rename_i wr
              obtain ⟨k, hk, rfl, P1, P2, P3, P4, P5, P7⟩ := hrel
              have B3 := Lib.hid P1
              have KX := Lib.hid P3
              have KY := Lib.hid P4
              have KR := Lib.hid P5
              have KP := Lib.hid P7
              clear P1 P3 P4 P5 P7 cy0 cy1 cy2
              have z0 : w.heap.size < wr.heap.size := by omega
              have z1 : w.heap.size + 1 < wr.heap.size := by omega
              have z2 : w.heap.size + 2 < wr.heap.size := by omega
              obtain ⟨⟨cx0, cx1, cx2⟩, _, _, _⟩ := three KX.out
              obtain ⟨⟨cy0, cy1, cy2⟩, _, _, _⟩ := three KY.out
              obtain ⟨⟨cp0, cp1, cp2⟩, _, _, _⟩ := three KP.out
              by_cases hlt : k < m
              · go_wp2_with fail
                refine (AB.out _).mono ?_
                rintro e w' ⟨rfl, rfl⟩
                go_wp2_with fail
                refine (specMul (powN x k) x _ (PS.out k) HX.out).mono ?_
                rintro e w3 ⟨rfl, hb⟩
                have MX := Lib.hid (blk_below hb KX.out)
                have MY := Lib.hid (blk_below hb KY.out)
                have MR := Lib.hid (blk_below hb KR.out)
                have MP := Lib.hid (blk_below hb KP.out)
                have B4 := Lib.hid (below_then B3.out hb)
                have hs := hb.size
                clear hb cx0 cx1 cx2 cy0 cy1 cy2 cp0 cp1 cp2
                obtain ⟨⟨cp0, cp1, cp2⟩, fp0, fp1, fp2⟩ := three MP.out
                go_wp2
                go_roundw
                case rel => exact ⟨k + 1, by omega, by go_num, below_three B4.out (by omega) _ _ _, by simp; omega, blk_set3' MX.out (by omega), blk_set3' MY.out (by omega), blk_set3' MR.out (by omega), cells_set3 MP.out⟩
                case measure => simp [intOf]; omega
              · have hkm : k = m := by omega
                subst hkm
                clear hlt hk
                go_wp2_with fail
                refine (AB.out _).mono ?_
                rintro e w' ⟨rfl, rfl⟩
                go_wp2_with fail
                refine (specDiv oneI (powN x k) _ one_small (PS.out k)).mono ?_
                rintro e w3 ⟨rfl, hb⟩
                have MR := Lib.hid (blk_below hb KR.out)
                have B4 := Lib.hid (below_then B3.out hb)
                clear hb cx0 cx1 cx2 cy0 cy1 cy2 cp0 cp1 cp2
                obtain ⟨⟨cp0, cp1, cp2⟩, fp0, fp1, fp2⟩ := three MR.out
                go_wp2
                rw [X.out]
                exact item_ret rfl rfl rfl MR.out ⟨rfl, below_three B4.out (by omega) _ _ _⟩

          · have X := Lib.hid (show powI x y = powN x m by rw [pow_pos O.out s, hm])
            have e2 : m ≤ 20 := by omega
            clear hm
            go_enter Tryd.func12, Tryd.ntmps12
            go_wp2_with fail
            refine (specNumYes x.n x.d x.t _ hx NX.out).mono ?_
            rintro e w1 ⟨rfl, hb⟩
            obtain ⟨hc, hf⟩ := bcell hb
            have W1 := Lib.hid hb
            have B1 := Lib.hid (below_then (below3 w _ _ _) hb)
            have G1 := Lib.hid (blk_below (g := w.heap.size + 2) hb (blk_new _ _ (by simp)))
            have hz : w.heap.size + 2 < w1.heap.size := by have := hb.size; simp at this; omega
            clear hb
            go_wp2_with fail
            refine (specNumYes y.n y.d y.t _ hy NY.out).mono ?_
            rintro e w2 ⟨rfl, hb⟩
            have W2 := Lib.hid (W1.out.trans (hb.mono W1.out.size))
            clear hc hf
            obtain ⟨hc2, hf2⟩ := bcell W2.out
            have B2 := Lib.hid (below_then B1.out hb)
            have G2 := Lib.hid (blk_below hb G1.out)
            have hz2 : w.heap.size + 2 < w2.heap.size := by have := hb.size; omega
            clear hb
            have GX := Lib.hid (blk_below (g := w.heap.size) W2.out (blk_old (blk_old (blk_new _ _ rfl))))
            have GY := Lib.hid (blk_below (g := w.heap.size + 1) W2.out (blk_old (blk_new _ _ (by simp))))
            obtain ⟨⟨cy0, cy1, cy2⟩, _, _, _⟩ := three GY.out
            have hz1 : w.heap.size + 1 < w2.heap.size := by omega
            have hz0 : w.heap.size < w2.heap.size := by omega
            clear hc2 hf2
            go_wp2_with fail
            refine (inYes y.n (-20) 20 _ n0 n1).mono ?_
            rintro e w' ⟨rfl, rfl⟩
            go_wp2
            go_loopw [6] (fun i wr => ∃ k : Nat, k ≤ m ∧ i = .int .i64 k ∧ PowAtS w w2 x y k wr) (fun i _ => m - (intOf i).toNat)
            case atStart => exact ⟨0, by omega, rfl, below_then B2.out (below1 w2 _), by simp, blk_old GX.out, blk_old GY.out, blk_old G2.out, blk_new _ _ rfl⟩
            case round =>
              rename_i wr
              obtain ⟨k, hk, rfl, P1, P2, P3, P4, P5, P7⟩ := hrel
              have B3 := Lib.hid P1
              have KX := Lib.hid P3
              have KY := Lib.hid P4
              have KR := Lib.hid P5
              have KP := Lib.hid P7
              clear P1 P3 P4 P5 P7 cy0 cy1 cy2
              have z0 : w.heap.size < wr.heap.size := by omega
              have z1 : w.heap.size + 1 < wr.heap.size := by omega
              have z2 : w.heap.size + 2 < wr.heap.size := by omega
              obtain ⟨⟨cx0, cx1, cx2⟩, _, _, _⟩ := three KX.out
              obtain ⟨⟨cy0, cy1, cy2⟩, _, _, _⟩ := three KY.out
              obtain ⟨⟨cp0, cp1, cp2⟩, _, _, _⟩ := three KP.out
              by_cases hlt : k < m
              · go_wp2_with fail
                refine (AB.out _).mono ?_
                rintro e w' ⟨rfl, rfl⟩
                go_wp2_with fail
                refine (specMul (powN x k) x _ (PS.out k) HX.out).mono ?_
                rintro e w3 ⟨rfl, hb⟩
                have MX := Lib.hid (blk_below hb KX.out)
                have MY := Lib.hid (blk_below hb KY.out)
                have MR := Lib.hid (blk_below hb KR.out)
                have MP := Lib.hid (blk_below hb KP.out)
                have B4 := Lib.hid (below_then B3.out hb)
                have hs := hb.size
                clear hb cx0 cx1 cx2 cy0 cy1 cy2 cp0 cp1 cp2
                obtain ⟨⟨cp0, cp1, cp2⟩, fp0, fp1, fp2⟩ := three MP.out
                go_wp2
                go_roundw
                case rel => exact ⟨k + 1, by omega, by go_num, below_three B4.out (by omega) _ _ _, by simp; omega, blk_set3' MX.out (by omega), blk_set3' MY.out (by omega), blk_set3' MR.out (by omega), cells_set3 MP.out⟩
                case measure => simp [intOf]; omega
              · have hkm : k = m := by omega
                subst hkm
                clear hlt hk
                go_wp2_with fail
                refine (AB.out _).mono ?_
                rintro e w' ⟨rfl, rfl⟩
                obtain ⟨⟨cr0, cr1, cr2⟩, fr0, fr1, fr2⟩ := three KR.out
                go_wp2
                rw [X.out]
                exact item_ret rfl rfl rfl KR.out ⟨rfl, below_three B3.out (by omega) _ _ _⟩

      · have X := Lib.hid (pow_no (x := x) (powOk_d d))
        clear h k hB
        go_enter Tryd.func12, Tryd.ntmps12
        go_wp2_with fail
        refine (specNumYes x.n x.d x.t _ hx NX.out).mono ?_
        rintro e w1 ⟨rfl, hb⟩
        obtain ⟨hc, hf⟩ := bcell hb
        have W1 := Lib.hid hb
        have B1 := Lib.hid (below_then (below3 w _ _ _) hb)
        have G1 := Lib.hid (blk_below (g := w.heap.size + 2) hb (blk_new _ _ (by simp)))
        have hz : w.heap.size + 2 < w1.heap.size := by have := hb.size; simp at this; omega
        clear hb
        go_wp2_with fail
        refine (specNumYes y.n y.d y.t _ hy NY.out).mono ?_
        rintro e w2 ⟨rfl, hb⟩
        have W2 := Lib.hid (W1.out.trans (hb.mono W1.out.size))
        clear hc hf
        obtain ⟨hc2, hf2⟩ := bcell W2.out
        have B2 := Lib.hid (below_then B1.out hb)
        have G2 := Lib.hid (blk_below hb G1.out)
        have hz2 : w.heap.size + 2 < w2.heap.size := by have := hb.size; omega
        clear hb
        go_wp2
        rw [X.out]
        exact item_ret rfl rfl rfl G2.out ⟨rfl, below_three B2.out (by omega) _ _ _⟩
end Go.Proofs.YtmglolpiekbnpaaDoor
