/- PowerOf, the program's. -/
import Derived.Test.YtmglolpiekbnpaaDoorNumSpec
import Derived.Test.YtmglolpiekbnpaaDoorNumImpl2
import Derived.RegionTactic
namespace Go.Proofs.YtmglolpiekbnpaaDoor
set_option maxRecDepth 100000
open Go.RowKit
set_option linter.unusedVariables false

theorem pow_no {x y : It} (h : powOk x y = false) : powI x y = noI := by unfold powI; rw [h]; rfl
theorem powOk_b {x y : It} (h : both x y = false) : powOk x y = false := by unfold powOk; simp [h]
theorem powOk_d {x y : It} (h : y.d ≠ 1) : powOk x y = false := by unfold powOk; simp [h]
theorem powOk_n {x y : It} (h : y.n < -20 ∨ 20 < y.n) : powOk x y = false := by
  unfold powOk; apply decide_eq_false; omega
theorem powOk_yes {x y : It} (h : both x y = true) (hd : y.d = 1) (h1 : -20 ≤ y.n) (h2 : y.n ≤ 20) : powOk x y = true := by
  unfold powOk; exact decide_eq_true ⟨h, hd, h1, h2⟩
theorem pow_neg {x y : It} (h : powOk x y = true) (k : y.n < 0) : powI x y = divI oneI (powN x y.n.natAbs) := by unfold powI; rw [if_pos h, if_pos k]
theorem pow_pos {x y : It} (h : powOk x y = true) (k : ¬ y.n < 0) : powI x y = powN x y.n.natAbs := by unfold powI; rw [if_pos h, if_neg k]
theorem powN_small (x : It) (k : Nat) : (powN x k).t.size ≤ 9223372036854775807 := by rw [powN_t]; decide
theorem one_small : oneI.t.size ≤ 9223372036854775807 := by decide

/-- Where the five blocks of PowerOf's call stand behind k rounds. -/
def PowAt (w w1 : World) (x y : It) (k : Nat) (v : World) : Prop :=
  Below w.heap.size w v ∧ w1.heap.size + 1 < v.heap.size ∧
  v.heap[w.heap.size]? = some (.cells #[.int .i64 x.n, .int .i64 x.d, .string x.t] 25 (0, 0)) ∧ v.heap[w.heap.size + 1]? = some (.cells #[.int .i64 y.n, .int .i64 y.d, .string y.t] 25 (0, 0)) ∧ v.heap[w.heap.size + 2]? = some (.cells #[.int .i64 0, .int .i64 0, .string ⟨#[]⟩] 25 (0, 0)) ∧
  v.heap[w1.heap.size]? = some (.cells #[.int .i64 oneI.n, .int .i64 oneI.d, .string oneI.t] 25 (0, 0)) ∧ v.heap[w1.heap.size + 1]? = some (.cells #[.int .i64 (powN x k).n, .int .i64 (powN x k).d, .string (powN x k).t] 25 (0, 0))

set_option maxHeartbeats 4000000 in
theorem implPow (x y : It) (w : World) (hx : x.t.size ≤ 9223372036854775807) (hy : y.t.size ≤ 9223372036854775807) :
    Calls Tryd.prog 10 #[.agg #[.int .i64 x.n, .int .i64 x.d, .string x.t], .agg #[.int .i64 y.n, .int .i64 y.d, .string y.t]] w fun e w' => e = .returned (.agg #[.int .i64 (powI x y).n, .int .i64 (powI x y).d, .string (powI x y).t]) ∧ Below w.heap.size w w' := by
  cases h : both x y
  · have X := Lib.hid (pow_no (powOk_b h))
    have N := Lib.hid h
    clear h
    go_enter Tryd.func10, Tryd.ntmps10
    go_wp2_with fail
    refine (areNo x y _ hx hy N.out).mono ?_
    rintro e w1 ⟨rfl, hb⟩
    obtain ⟨hc, hf⟩ := bcell hb
    have B1 := Lib.hid (below_then (below3 w _ _ _) hb)
    have G := Lib.hid (blk_below (g := w.heap.size + 2) hb (blk_new _ _ (by simp)))
    clear hb
    go_wp2
    rw [X.out]
    exact item_ret rfl rfl rfl G.out ⟨rfl, below_three B1.out (by omega) _ _ _⟩
  · have start : ∀ (P : Prop), (y.d ≠ 1 ∨ y.n < -20 ∨ 20 < y.n → P) → (y.d = 1 ∧ -20 ≤ y.n ∧ y.n ≤ 20 → P) → P := by
      intro P a b
      by_cases c : y.d = 1 ∧ -20 ≤ y.n ∧ y.n ≤ 20
      · exact b c
      · exact a (by omega)
    have yn := isN_iff.1 (both_iff.1 h).2
    have y0 : -999999999 ≤ y.n := yn.2.2.2.1
    have y1 : y.n ≤ 999999999 := yn.2.2.2.2.1
    clear yn
    apply start
    · intro c
      have X := Lib.hid (show powI x y = noI from pow_no (c.elim powOk_d powOk_n))
      have N := Lib.hid h
      clear h start
      have c' : (¬ y.d = 1) ∨ ((1 ≤ y.d ∧ y.d ≤ 1) ∧ y.n < -20) ∨ ((1 ≤ y.d ∧ y.d ≤ 1) ∧ ¬ y.n < -20 ∧ 20 < y.n) := by omega
      clear c
      rcases c' with c | ⟨⟨c, c1⟩, d⟩ | ⟨⟨c, c1⟩, d, d'⟩
      all_goals
        go_enter Tryd.func10, Tryd.ntmps10
        go_wp2_with fail
        refine (areYes x y _ hx hy N.out).mono ?_
        rintro e w1 ⟨rfl, hb⟩
        obtain ⟨hc, hf⟩ := bcell hb
        have B1 := Lib.hid (below_then (below3 w _ _ _) hb)
        have G := Lib.hid (blk_below (g := w.heap.size + 2) hb (blk_new _ _ (by simp)))
        have hz : w.heap.size + 2 < w1.heap.size := by have := hb.size; simp at this; omega
        clear hb
        go_wp2
        rw [X.out]
        exact item_ret rfl rfl rfl G.out ⟨rfl, below_three B1.out (by omega) _ _ _⟩
    · rintro ⟨hd, n0, n1⟩
      have O := Lib.hid (powOk_yes h hd n0 n1)
      have N := Lib.hid h
      have c0 : 1 ≤ y.d := by omega
      have c1 : y.d ≤ 1 := by omega
      clear h start hd
      have PS := Lib.hid (powN_small x)
      obtain ⟨m, hm⟩ : ∃ m, y.n.natAbs = m := ⟨_, rfl⟩
      have HX := Lib.hid hx
      by_cases s : y.n < 0
      · have X := Lib.hid (show powI x y = divI oneI (powN x m) by rw [pow_neg O.out s, hm])
        have e0 : -y.n ≤ (m : Int) := by omega
        have e1 : (m : Int) ≤ -y.n := by omega
        have e2 : m ≤ 20 := by omega
        clear hm
        go_enter Tryd.func10, Tryd.ntmps10
        go_wp2_with fail
        refine (areYes x y _ hx hy N.out).mono ?_
        rintro e w1 ⟨rfl, hb⟩
        obtain ⟨hc, hf⟩ := bcell hb
        have B1 := Lib.hid (below_then (below3 w _ _ _) hb)
        have GX := Lib.hid (blk_below (g := w.heap.size) hb (blk_old (blk_old (blk_new _ _ rfl))))
        have GY := Lib.hid (blk_below (g := w.heap.size + 1) hb (blk_old (blk_new _ _ (by simp))))
        have GR := Lib.hid (blk_below (g := w.heap.size + 2) hb (blk_new _ _ (by simp)))
        have hz : w.heap.size + 2 < w1.heap.size := by have := hb.size; simp at this; omega
        clear hb
        obtain ⟨⟨cy0, cy1, cy2⟩, _, _, _⟩ := three GY.out
        have hz1 : w.heap.size + 1 < w1.heap.size := by omega
        have hz0 : w.heap.size < w1.heap.size := by omega
        clear hc hf
        go_wp2
        go_loopw [35] (fun i wr => ∃ k : Nat, k ≤ m ∧ i = .int .i64 k ∧ PowAt w w1 x y k wr) (fun i _ => m - (intOf i).toNat)
        case atStart => exact ⟨0, by omega, rfl, below_then B1.out (below2 w1 _ _), by simp, blk_old (blk_old GX.out), blk_old (blk_old GY.out), blk_old (blk_old GR.out), blk_old (blk_new _ _ rfl), blk_new _ _ (by simp)⟩
        case round =>
          rename_i wr
          obtain ⟨k, hk, rfl, P1, P2, P3, P4, P5, P6, P7⟩ := hrel
          have B2 := Lib.hid P1
          have KX := Lib.hid P3
          have KY := Lib.hid P4
          have KR := Lib.hid P5
          have KO := Lib.hid P6
          have KP := Lib.hid P7
          clear P1 P3 P4 P5 P6 P7 cy0 cy1 cy2
          have z0 : w.heap.size < wr.heap.size := by omega
          have z1 : w.heap.size + 1 < wr.heap.size := by omega
          have z2 : w.heap.size + 2 < wr.heap.size := by omega
          have z3 : w1.heap.size < wr.heap.size := by omega
          obtain ⟨⟨cx0, cx1, cx2⟩, _, _, _⟩ := three KX.out
          obtain ⟨⟨cy0, cy1, cy2⟩, _, _, _⟩ := three KY.out
          obtain ⟨⟨cp0, cp1, cp2⟩, _, _, _⟩ := three KP.out
          obtain ⟨⟨co0, co1, co2⟩, _, _, _⟩ := three KO.out
          by_cases hlt : k < m
          · go_wp2_with fail
            refine (implMul (powN x k) x _ (PS.out k) HX.out).mono ?_
            rintro e w2 ⟨rfl, hb⟩
            have MX := Lib.hid (blk_below hb KX.out)
            have MY := Lib.hid (blk_below hb KY.out)
            have MR := Lib.hid (blk_below hb KR.out)
            have MO := Lib.hid (blk_below hb KO.out)
            have MP := Lib.hid (blk_below hb KP.out)
            have B3 := Lib.hid (below_then B2.out hb)
            have hs := hb.size
            clear hb cx0 cx1 cx2 cy0 cy1 cy2 cp0 cp1 cp2 co0 co1 co2
            obtain ⟨⟨cp0, cp1, cp2⟩, fp0, fp1, fp2⟩ := three MP.out
            go_wp2
            go_roundw
            case rel => exact ⟨k + 1, by omega, by go_num, below_three B3.out (by omega) _ _ _, by simp; omega, blk_set3' MX.out (by omega), blk_set3' MY.out (by omega), blk_set3' MR.out (by omega), blk_set3' MO.out (by omega), cells_set3 MP.out⟩
            case measure => simp [intOf]; omega
          · have hkm : k = m := by omega
            subst hkm
            clear hlt hk
            go_wp2_with fail
            refine (implDiv oneI (powN x k) _ one_small (PS.out k)).mono ?_
            rintro e w2 ⟨rfl, hb⟩
            have MR := Lib.hid (blk_below hb KR.out)
            have B3 := Lib.hid (below_then B2.out hb)
            clear hb cx0 cx1 cx2 cy0 cy1 cy2 cp0 cp1 cp2 co0 co1 co2
            obtain ⟨⟨cp0, cp1, cp2⟩, fp0, fp1, fp2⟩ := three MR.out
            go_wp2
            rw [X.out]
            exact item_ret rfl rfl rfl MR.out ⟨rfl, below_three B3.out (by omega) _ _ _⟩
      · have X := Lib.hid (show powI x y = powN x m by rw [pow_pos O.out s, hm])
        have e0 : y.n ≤ (m : Int) := by omega
        have e1 : (m : Int) ≤ y.n := by omega
        have e2 : m ≤ 20 := by omega
        clear hm
        go_enter Tryd.func10, Tryd.ntmps10
        go_wp2_with fail
        refine (areYes x y _ hx hy N.out).mono ?_
        rintro e w1 ⟨rfl, hb⟩
        obtain ⟨hc, hf⟩ := bcell hb
        have B1 := Lib.hid (below_then (below3 w _ _ _) hb)
        have GX := Lib.hid (blk_below (g := w.heap.size) hb (blk_old (blk_old (blk_new _ _ rfl))))
        have GY := Lib.hid (blk_below (g := w.heap.size + 1) hb (blk_old (blk_new _ _ (by simp))))
        have GR := Lib.hid (blk_below (g := w.heap.size + 2) hb (blk_new _ _ (by simp)))
        have hz : w.heap.size + 2 < w1.heap.size := by have := hb.size; simp at this; omega
        clear hb
        obtain ⟨⟨cy0, cy1, cy2⟩, _, _, _⟩ := three GY.out
        have hz1 : w.heap.size + 1 < w1.heap.size := by omega
        have hz0 : w.heap.size < w1.heap.size := by omega
        clear hc hf
        go_wp2
        go_loopw [35] (fun i wr => ∃ k : Nat, k ≤ m ∧ i = .int .i64 k ∧ PowAt w w1 x y k wr) (fun i _ => m - (intOf i).toNat)
        case atStart => exact ⟨0, by omega, rfl, below_then B1.out (below2 w1 _ _), by simp, blk_old (blk_old GX.out), blk_old (blk_old GY.out), blk_old (blk_old GR.out), blk_old (blk_new _ _ rfl), blk_new _ _ (by simp)⟩
        case round =>
          rename_i wr
          obtain ⟨k, hk, rfl, P1, P2, P3, P4, P5, P6, P7⟩ := hrel
          have B2 := Lib.hid P1
          have KX := Lib.hid P3
          have KY := Lib.hid P4
          have KR := Lib.hid P5
          have KO := Lib.hid P6
          have KP := Lib.hid P7
          clear P1 P3 P4 P5 P6 P7 cy0 cy1 cy2
          have z0 : w.heap.size < wr.heap.size := by omega
          have z1 : w.heap.size + 1 < wr.heap.size := by omega
          have z2 : w.heap.size + 2 < wr.heap.size := by omega
          have z3 : w1.heap.size < wr.heap.size := by omega
          obtain ⟨⟨cx0, cx1, cx2⟩, _, _, _⟩ := three KX.out
          obtain ⟨⟨cy0, cy1, cy2⟩, _, _, _⟩ := three KY.out
          obtain ⟨⟨cp0, cp1, cp2⟩, _, _, _⟩ := three KP.out
          obtain ⟨⟨co0, co1, co2⟩, _, _, _⟩ := three KO.out
          by_cases hlt : k < m
          · go_wp2_with fail
            refine (implMul (powN x k) x _ (PS.out k) HX.out).mono ?_
            rintro e w2 ⟨rfl, hb⟩
            have MX := Lib.hid (blk_below hb KX.out)
            have MY := Lib.hid (blk_below hb KY.out)
            have MR := Lib.hid (blk_below hb KR.out)
            have MO := Lib.hid (blk_below hb KO.out)
            have MP := Lib.hid (blk_below hb KP.out)
            have B3 := Lib.hid (below_then B2.out hb)
            have hs := hb.size
            clear hb cx0 cx1 cx2 cy0 cy1 cy2 cp0 cp1 cp2 co0 co1 co2
            obtain ⟨⟨cp0, cp1, cp2⟩, fp0, fp1, fp2⟩ := three MP.out
            go_wp2
            go_roundw
            case rel => exact ⟨k + 1, by omega, by go_num, below_three B3.out (by omega) _ _ _, by simp; omega, blk_set3' MX.out (by omega), blk_set3' MY.out (by omega), blk_set3' MR.out (by omega), blk_set3' MO.out (by omega), cells_set3 MP.out⟩
            case measure => simp [intOf]; omega
          · have hkm : k = m := by omega
            subst hkm
            clear hlt hk
            obtain ⟨⟨cr0, cr1, cr2⟩, fr0, fr1, fr2⟩ := three KR.out
            go_wp2
            rw [X.out]
            exact item_ret rfl rfl rfl KR.out ⟨rfl, below_three B2.out (by omega) _ _ _⟩

end Go.Proofs.YtmglolpiekbnpaaDoor
