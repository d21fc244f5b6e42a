/- Called with any arguments (vectors, vectors, vectors), the law FnExactChooseVector returns true and leaves everything as it was. Condition: the listed package-level variables read as the program's own initialisers lay them (the card ties them). -/
import Derived.Test.YtjpdnabfpiengaaDoorRows
import Derived.Test.YtjpdnabfpiengaaDoorCards
import Derived.Test.YtjpdnabfpiengaaDoorTie
import Derived.Test.YtjpdnabfpiengaaDoorLaid
import Derived.Test.YtjpdnabfpiengaaDoorLaidB
import Derived.Test.YtjpdnabfpiengaaDoorMs3
import Derived.Test.YtjpdnabfpiengaaDoorMs2
import Derived.Test.YtjpdnabfpiengaaDoorMs1
import Derived.Test.YtjpdnabfpiengaaDoorVecIn
import Derived.WalkKit
import Derived.ProofKit
import Derived.OpenShut
import Derived.ShutString
import Derived.ChangeOld
import Derived.Carry
import Derived.Below
import Derived.LaidMore
import Derived.Deep.DeepHandedRow
import Derived.Stop.Joined
import Derived.SevenTiedAt
namespace Go.Proofs.YtjpdnabfpiengaaDoor.fnExactChooseVector
open Go.ChangeShapes Go.WideShapes Go.ChangeAt Go.RowKit
open Go.ChangeMaps (open_string shut_string)
set_option linter.unusedVariables false

theorem laidOut : laidOutB Tryd.prog = true := by kernel_rfl
theorem own : ownKnob Tryd.prog.godebug = none := by kernel_rfl

theorem ch_plain {d0 : Nat} {t y n : Vec} (h0 : Small d0 t) : PlainN (chV t y n) := by
  by_cases h : ChOk t y n
  · rw [(ch_yes h).1]
    obtain ⟨⟨q0, q1, q2⟩, hc, hk, hz⟩ := h
    have a1 := ch_atmOk q1 hk.1
    have a2 := ch_atmOk q2 hk.2
    have l1 : 0 < (itemsV y).length := by omega
    have l2 : 0 < (itemsV n).length := by omega
    have p0 : 0 ≤ chK y n := Int.le_trans a1.pk.1 (maxI_l _ _)
    have p3 : chK y n ≤ 3 := maxI_le a1.pk.2.1 a2.pk.2.1
    have hl : (itemsV t).length ≤ 40 := by
      obtain ⟨kk, items, parts, names, cls, levels, code, env⟩ := t
      exact count_len q0 hc
    have hn : (namesV t).length ≤ 1048576 ∧ ∀ s ∈ namesV t, s.size ≤ 1048576 := by
      cases d0 with
      | zero => exact h0.elim
      | succ d => obtain ⟨kk, items, parts, names, cls, levels, code, env⟩ := t; exact ⟨h0.2.2.1, h0.2.2.2.2.2.2.1⟩
    have ok : ∀ i, ItOk (chK y n) (chF t (chP y (chK y n)) (chP n (chK y n)) i) := fun i => by
      unfold chF chsI
      split
      · refine a1.cnv (maxI_l _ _) p3 ?_
        rw [← show (cnvL (plnK (kindV y) (levV y)) (chK y n) (plnL (levV y) (itemsV y))).length = (chP y (chK y n)).length from rfl]
        rw [cnvL_len, plnL_len]
        exact Nat.mod_lt i l1
      · split
        · refine a2.cnv (maxI_r _ _) p3 ?_
          rw [← show (cnvL (plnK (kindV n) (levV n)) (chK y n) (plnL (levV n) (itemsV n))).length = (chP n (chK y n)).length from rfl]
          rw [cnvL_len, plnL_len]
          exact Nat.mod_lt i l2
        · exact .inl rfl
    refine .inr ⟨_, _, _, rfl, by omega, by rw [itF_len]; exact hl, fun x hx => ?_, hn.1, hn.2⟩
    obtain ⟨i, _, rfl⟩ := mem_itF hx
    have := itOk_size (ok i)
    exact ⟨this.1, by omega⟩
  · have e : chV t y n = noV := by unfold chV; rw [bB_no h]
    rw [e]; exact .inl rfl

set_option maxHeartbeats 8000000 in
set_option maxRecDepth 100000 in
theorem walk (x0 : Vec) (d0 : Nat) (y0 : Value) (x1 : Vec) (d1 : Nat) (y1 : Value) (x2 : Vec) (d2 : Nat) (y2 : Value) (w : World) (hv0 : VecAt 0 w.heap.size w d0 x0 y0) (hf0 : Fits d0 x0) (hv1 : VecAt 0 w.heap.size w d1 x1 y1) (hf1 : Fits d1 x1) (hv2 : VecAt 0 w.heap.size w d2 x2 y2) (hf2 : Fits d2 x2) (tab : Lib.TabIs Tryd.prog w "internal/strconv.uint64pow10" .u64 Lib.pow10Tab) (hsh : w.ShapedOpen Tryd.prog) :
    Calls Tryd.prog 6 #[y0, y1, y2] w fun e w' => e = .returned (.bool true) ∧ Below w.heap.size w w' := by
  have SZ0 := Lib.hid (fun (w1 : World) (hb : Below w.heap.size w w1) => (szAll d0).out x0 y0 (1048576) 0 w.heap.size w1 (hv0.below hb (Nat.le_refl _)) hb.size hf0 (by omega) (by omega))
  by_cases hb0 : 1048576 < wV d0 x0
  · rw [szL_no (show (1048576) < (wV d0 x0 : Int) by omega)] at SZ0
    clear hb0 tab hsh 
    obtain ⟨p0k, p0a1, p0n1, p0m1, p0a2, p0n2, p0m2, p0a3, p0n3, p0m3, p0a4, p0n4, p0m4, p0a5, p0n5, p0m5, p0c, p0e, rfl⟩ := hv0.agg
    obtain ⟨p1k, p1a1, p1n1, p1m1, p1a2, p1n2, p1m2, p1a3, p1n3, p1m3, p1a4, p1n4, p1m4, p1a5, p1n5, p1m5, p1c, p1e, rfl⟩ := hv1.agg
    obtain ⟨p2k, p2a1, p2n1, p2m1, p2a2, p2n2, p2m2, p2a3, p2n3, p2m3, p2a4, p2n4, p2m4, p2a5, p2n5, p2m5, p2c, p2e, rfl⟩ := hv2.agg
    clear hv0 hf0 hv1 hf1 hv2 hf2
    go_enter Tryd.func6, Tryd.ntmps6
    go_wp2_with fail
    obtain ⟨w0_, hW⟩ : ∃ W, ((w.alloc (.cells #[.int .i64 p0k, .slice p0a1 p0n1 p0m1, .slice p0a2 p0n2 p0m2, .slice p0a3 p0n3 p0m3, .slice p0a4 p0n4 p0m4, .slice p0a5 p0n5 p0m5, .int .i64 p0c, .int .i64 p0e] 26)).alloc (.cells #[.int .i64 p1k, .slice p1a1 p1n1 p1m1, .slice p1a2 p1n2 p1m2, .slice p1a3 p1n3 p1m3, .slice p1a4 p1n4 p1m4, .slice p1a5 p1n5 p1m5, .int .i64 p1c, .int .i64 p1e] 26)).alloc (.cells #[.int .i64 p2k, .slice p2a1 p2n1 p2m1, .slice p2a2 p2n2 p2m2, .slice p2a3 p2n3 p2m3, .slice p2a4 p2n4 p2m4, .slice p2a5 p2n5 p2m5, .int .i64 p2c, .int .i64 p2e] 26) = W := ⟨_, rfl⟩
    have hz1 : (w.alloc (.cells #[.int .i64 p0k, .slice p0a1 p0n1 p0m1, .slice p0a2 p0n2 p0m2, .slice p0a3 p0n3 p0m3, .slice p0a4 p0n4 p0m4, .slice p0a5 p0n5 p0m5, .int .i64 p0c, .int .i64 p0e] 26)).heap.size = w.heap.size + 1 := by simp
    have hz2 : ((w.alloc (.cells #[.int .i64 p0k, .slice p0a1 p0n1 p0m1, .slice p0a2 p0n2 p0m2, .slice p0a3 p0n3 p0m3, .slice p0a4 p0n4 p0m4, .slice p0a5 p0n5 p0m5, .int .i64 p0c, .int .i64 p0e] 26)).alloc (.cells #[.int .i64 p1k, .slice p1a1 p1n1 p1m1, .slice p1a2 p1n2 p1m2, .slice p1a3 p1n3 p1m3, .slice p1a4 p1n4 p1m4, .slice p1a5 p1n5 p1m5, .int .i64 p1c, .int .i64 p1e] 26)).heap.size = w.heap.size + 1 + 1 := by simp
    have b : Below w.heap.size w w0_ := hW ▸ (((below1 w _).alloc (by simp) _).alloc (by simp; omega) _)
    have kb0 : w0_.heap[w.heap.size]? = some (.cells #[.int .i64 p0k, .slice p0a1 p0n1 p0m1, .slice p0a2 p0n2 p0m2, .slice p0a3 p0n3 p0m3, .slice p0a4 p0n4 p0m4, .slice p0a5 p0n5 p0m5, .int .i64 p0c, .int .i64 p0e] 26 (0, 0)) := by rw [← hW]; exact blk_old (blk_old (blk_new w _ rfl))
    have kb1 : w0_.heap[w.heap.size + 1]? = some (.cells #[.int .i64 p1k, .slice p1a1 p1n1 p1m1, .slice p1a2 p1n2 p1m2, .slice p1a3 p1n3 p1m3, .slice p1a4 p1n4 p1m4, .slice p1a5 p1n5 p1m5, .int .i64 p1c, .int .i64 p1e] 26 (0, 0)) := by rw [← hW]; exact blk_old (blk_new _ _ hz1.symm)
    have kb2 : w0_.heap[w.heap.size + 1 + 1]? = some (.cells #[.int .i64 p2k, .slice p2a1 p2n1 p2m1, .slice p2a2 p2n2 p2m2, .slice p2a3 p2n3 p2m3, .slice p2a4 p2n4 p2m4, .slice p2a5 p2n5 p2m5, .int .i64 p2c, .int .i64 p2e] 26 (0, 0)) := by rw [← hW]; exact blk_new _ _ hz2.symm
    rw [hW]
    have B0 := Lib.hid b
    clear b hW hz1 hz2
    with_reducible refine (SZ0.out _ B0.out).mono ?_
    rintro e w1 ⟨rfl, b⟩
    have B1 := Lib.hid (below_then B0.out b)
    clear b
    go_wp2
    go_ret
    exact ⟨rfl, B1.out⟩
  rw [szL_yes (show (wV d0 x0 : Int) ≤ 1048576 by omega)] at SZ0
  have SZ1 := Lib.hid (fun (w1 : World) (hb : Below w.heap.size w w1) => (szAll d1).out x1 y1 (1048576 - (wV d0 x0 : Int)) 0 w.heap.size w1 (hv1.below hb (Nat.le_refl _)) hb.size hf1 (by omega) (by omega))
  by_cases hb1 : 1048576 < wV d0 x0 + wV d1 x1
  · rw [szL_no (show (1048576 - (wV d0 x0 : Int)) < (wV d1 x1 : Int) by omega)] at SZ1
    obtain ⟨q0, hq0⟩ : ∃ q, wV d0 x0 = q := ⟨_, rfl⟩
    rw [hq0] at SZ0 hb0 SZ1
    clear hb1 tab hsh hq0
    obtain ⟨p0k, p0a1, p0n1, p0m1, p0a2, p0n2, p0m2, p0a3, p0n3, p0m3, p0a4, p0n4, p0m4, p0a5, p0n5, p0m5, p0c, p0e, rfl⟩ := hv0.agg
    obtain ⟨p1k, p1a1, p1n1, p1m1, p1a2, p1n2, p1m2, p1a3, p1n3, p1m3, p1a4, p1n4, p1m4, p1a5, p1n5, p1m5, p1c, p1e, rfl⟩ := hv1.agg
    obtain ⟨p2k, p2a1, p2n1, p2m1, p2a2, p2n2, p2m2, p2a3, p2n3, p2m3, p2a4, p2n4, p2m4, p2a5, p2n5, p2m5, p2c, p2e, rfl⟩ := hv2.agg
    clear hv0 hf0 hv1 hf1 hv2 hf2
    go_enter Tryd.func6, Tryd.ntmps6
    go_wp2_with fail
    obtain ⟨w0_, hW⟩ : ∃ W, ((w.alloc (.cells #[.int .i64 p0k, .slice p0a1 p0n1 p0m1, .slice p0a2 p0n2 p0m2, .slice p0a3 p0n3 p0m3, .slice p0a4 p0n4 p0m4, .slice p0a5 p0n5 p0m5, .int .i64 p0c, .int .i64 p0e] 26)).alloc (.cells #[.int .i64 p1k, .slice p1a1 p1n1 p1m1, .slice p1a2 p1n2 p1m2, .slice p1a3 p1n3 p1m3, .slice p1a4 p1n4 p1m4, .slice p1a5 p1n5 p1m5, .int .i64 p1c, .int .i64 p1e] 26)).alloc (.cells #[.int .i64 p2k, .slice p2a1 p2n1 p2m1, .slice p2a2 p2n2 p2m2, .slice p2a3 p2n3 p2m3, .slice p2a4 p2n4 p2m4, .slice p2a5 p2n5 p2m5, .int .i64 p2c, .int .i64 p2e] 26) = W := ⟨_, rfl⟩
    have hz1 : (w.alloc (.cells #[.int .i64 p0k, .slice p0a1 p0n1 p0m1, .slice p0a2 p0n2 p0m2, .slice p0a3 p0n3 p0m3, .slice p0a4 p0n4 p0m4, .slice p0a5 p0n5 p0m5, .int .i64 p0c, .int .i64 p0e] 26)).heap.size = w.heap.size + 1 := by simp
    have hz2 : ((w.alloc (.cells #[.int .i64 p0k, .slice p0a1 p0n1 p0m1, .slice p0a2 p0n2 p0m2, .slice p0a3 p0n3 p0m3, .slice p0a4 p0n4 p0m4, .slice p0a5 p0n5 p0m5, .int .i64 p0c, .int .i64 p0e] 26)).alloc (.cells #[.int .i64 p1k, .slice p1a1 p1n1 p1m1, .slice p1a2 p1n2 p1m2, .slice p1a3 p1n3 p1m3, .slice p1a4 p1n4 p1m4, .slice p1a5 p1n5 p1m5, .int .i64 p1c, .int .i64 p1e] 26)).heap.size = w.heap.size + 1 + 1 := by simp
    have b : Below w.heap.size w w0_ := hW ▸ (((below1 w _).alloc (by simp) _).alloc (by simp; omega) _)
    have kb0 : w0_.heap[w.heap.size]? = some (.cells #[.int .i64 p0k, .slice p0a1 p0n1 p0m1, .slice p0a2 p0n2 p0m2, .slice p0a3 p0n3 p0m3, .slice p0a4 p0n4 p0m4, .slice p0a5 p0n5 p0m5, .int .i64 p0c, .int .i64 p0e] 26 (0, 0)) := by rw [← hW]; exact blk_old (blk_old (blk_new w _ rfl))
    have kb1 : w0_.heap[w.heap.size + 1]? = some (.cells #[.int .i64 p1k, .slice p1a1 p1n1 p1m1, .slice p1a2 p1n2 p1m2, .slice p1a3 p1n3 p1m3, .slice p1a4 p1n4 p1m4, .slice p1a5 p1n5 p1m5, .int .i64 p1c, .int .i64 p1e] 26 (0, 0)) := by rw [← hW]; exact blk_old (blk_new _ _ hz1.symm)
    have kb2 : w0_.heap[w.heap.size + 1 + 1]? = some (.cells #[.int .i64 p2k, .slice p2a1 p2n1 p2m1, .slice p2a2 p2n2 p2m2, .slice p2a3 p2n3 p2m3, .slice p2a4 p2n4 p2m4, .slice p2a5 p2n5 p2m5, .int .i64 p2c, .int .i64 p2e] 26 (0, 0)) := by rw [← hW]; exact blk_new _ _ hz2.symm
    rw [hW]
    have B0 := Lib.hid b
    clear b hW hz1 hz2
    with_reducible refine (SZ0.out _ B0.out).mono ?_
    rintro e w1 ⟨rfl, b⟩
    have B1 := Lib.hid (below_then B0.out b)
    have kb1 := blk_below b kb1
    clear b
    have KB1 := Lib.hid kb1
    clear kb1
    obtain ⟨k0, k1, k2, k3, k4, k5, k6, k7⟩ := vec8 KB1.out
    go_wp2_with fail
    with_reducible refine (SZ1.out _ B1.out).mono ?_
    rintro e w2 ⟨rfl, b⟩
    have B2 := Lib.hid (below_then B1.out b)
    clear k0 k1 k2 k3 k4 k5 k6 k7
    clear b
    go_wp2
    go_ret
    exact ⟨rfl, B2.out⟩
  rw [szL_yes (show (wV d1 x1 : Int) ≤ 1048576 - (wV d0 x0 : Int) by omega)] at SZ1
  have SZ2 := Lib.hid (fun (w1 : World) (hb : Below w.heap.size w w1) => (szAll d2).out x2 y2 (1048576 - (wV d0 x0 : Int) - (wV d1 x1 : Int)) 0 w.heap.size w1 (hv2.below hb (Nat.le_refl _)) hb.size hf2 (by omega) (by omega))
  by_cases hb2 : 1048576 < wV d0 x0 + wV d1 x1 + wV d2 x2
  · rw [szL_no (show (1048576 - (wV d0 x0 : Int) - (wV d1 x1 : Int)) < (wV d2 x2 : Int) by omega)] at SZ2
    obtain ⟨q0, hq0⟩ : ∃ q, wV d0 x0 = q := ⟨_, rfl⟩
    rw [hq0] at SZ0 hb0 SZ1 hb1 SZ2
    obtain ⟨q1, hq1⟩ : ∃ q, wV d1 x1 = q := ⟨_, rfl⟩
    rw [hq1] at SZ1 hb1 SZ2
    clear hb2 tab hsh hq0 hq1
    obtain ⟨p0k, p0a1, p0n1, p0m1, p0a2, p0n2, p0m2, p0a3, p0n3, p0m3, p0a4, p0n4, p0m4, p0a5, p0n5, p0m5, p0c, p0e, rfl⟩ := hv0.agg
    obtain ⟨p1k, p1a1, p1n1, p1m1, p1a2, p1n2, p1m2, p1a3, p1n3, p1m3, p1a4, p1n4, p1m4, p1a5, p1n5, p1m5, p1c, p1e, rfl⟩ := hv1.agg
    obtain ⟨p2k, p2a1, p2n1, p2m1, p2a2, p2n2, p2m2, p2a3, p2n3, p2m3, p2a4, p2n4, p2m4, p2a5, p2n5, p2m5, p2c, p2e, rfl⟩ := hv2.agg
    clear hv0 hf0 hv1 hf1 hv2 hf2
    go_enter Tryd.func6, Tryd.ntmps6
    go_wp2_with fail
    obtain ⟨w0_, hW⟩ : ∃ W, ((w.alloc (.cells #[.int .i64 p0k, .slice p0a1 p0n1 p0m1, .slice p0a2 p0n2 p0m2, .slice p0a3 p0n3 p0m3, .slice p0a4 p0n4 p0m4, .slice p0a5 p0n5 p0m5, .int .i64 p0c, .int .i64 p0e] 26)).alloc (.cells #[.int .i64 p1k, .slice p1a1 p1n1 p1m1, .slice p1a2 p1n2 p1m2, .slice p1a3 p1n3 p1m3, .slice p1a4 p1n4 p1m4, .slice p1a5 p1n5 p1m5, .int .i64 p1c, .int .i64 p1e] 26)).alloc (.cells #[.int .i64 p2k, .slice p2a1 p2n1 p2m1, .slice p2a2 p2n2 p2m2, .slice p2a3 p2n3 p2m3, .slice p2a4 p2n4 p2m4, .slice p2a5 p2n5 p2m5, .int .i64 p2c, .int .i64 p2e] 26) = W := ⟨_, rfl⟩
    have hz1 : (w.alloc (.cells #[.int .i64 p0k, .slice p0a1 p0n1 p0m1, .slice p0a2 p0n2 p0m2, .slice p0a3 p0n3 p0m3, .slice p0a4 p0n4 p0m4, .slice p0a5 p0n5 p0m5, .int .i64 p0c, .int .i64 p0e] 26)).heap.size = w.heap.size + 1 := by simp
    have hz2 : ((w.alloc (.cells #[.int .i64 p0k, .slice p0a1 p0n1 p0m1, .slice p0a2 p0n2 p0m2, .slice p0a3 p0n3 p0m3, .slice p0a4 p0n4 p0m4, .slice p0a5 p0n5 p0m5, .int .i64 p0c, .int .i64 p0e] 26)).alloc (.cells #[.int .i64 p1k, .slice p1a1 p1n1 p1m1, .slice p1a2 p1n2 p1m2, .slice p1a3 p1n3 p1m3, .slice p1a4 p1n4 p1m4, .slice p1a5 p1n5 p1m5, .int .i64 p1c, .int .i64 p1e] 26)).heap.size = w.heap.size + 1 + 1 := by simp
    have b : Below w.heap.size w w0_ := hW ▸ (((below1 w _).alloc (by simp) _).alloc (by simp; omega) _)
    have kb0 : w0_.heap[w.heap.size]? = some (.cells #[.int .i64 p0k, .slice p0a1 p0n1 p0m1, .slice p0a2 p0n2 p0m2, .slice p0a3 p0n3 p0m3, .slice p0a4 p0n4 p0m4, .slice p0a5 p0n5 p0m5, .int .i64 p0c, .int .i64 p0e] 26 (0, 0)) := by rw [← hW]; exact blk_old (blk_old (blk_new w _ rfl))
    have kb1 : w0_.heap[w.heap.size + 1]? = some (.cells #[.int .i64 p1k, .slice p1a1 p1n1 p1m1, .slice p1a2 p1n2 p1m2, .slice p1a3 p1n3 p1m3, .slice p1a4 p1n4 p1m4, .slice p1a5 p1n5 p1m5, .int .i64 p1c, .int .i64 p1e] 26 (0, 0)) := by rw [← hW]; exact blk_old (blk_new _ _ hz1.symm)
    have kb2 : w0_.heap[w.heap.size + 1 + 1]? = some (.cells #[.int .i64 p2k, .slice p2a1 p2n1 p2m1, .slice p2a2 p2n2 p2m2, .slice p2a3 p2n3 p2m3, .slice p2a4 p2n4 p2m4, .slice p2a5 p2n5 p2m5, .int .i64 p2c, .int .i64 p2e] 26 (0, 0)) := by rw [← hW]; exact blk_new _ _ hz2.symm
    rw [hW]
    have B0 := Lib.hid b
    clear b hW hz1 hz2
    with_reducible refine (SZ0.out _ B0.out).mono ?_
    rintro e w1 ⟨rfl, b⟩
    have B1 := Lib.hid (below_then B0.out b)
    have kb1 := blk_below b kb1
    have kb2 := blk_below b kb2
    clear b
    have KB1 := Lib.hid kb1
    clear kb1
    obtain ⟨k0, k1, k2, k3, k4, k5, k6, k7⟩ := vec8 KB1.out
    go_wp2_with fail
    with_reducible refine (SZ1.out _ B1.out).mono ?_
    rintro e w2 ⟨rfl, b⟩
    have B2 := Lib.hid (below_then B1.out b)
    have kb2 := blk_below b kb2
    clear k0 k1 k2 k3 k4 k5 k6 k7
    clear b
    have KB2 := Lib.hid kb2
    clear kb2
    obtain ⟨k0, k1, k2, k3, k4, k5, k6, k7⟩ := vec8 KB2.out
    go_wp2_with fail
    with_reducible refine (SZ2.out _ B2.out).mono ?_
    rintro e w3 ⟨rfl, b⟩
    have B3 := Lib.hid (below_then B2.out b)
    clear k0 k1 k2 k3 k4 k5 k6 k7
    clear b
    go_wp2
    go_ret
    exact ⟨rfl, B3.out⟩
  rw [szL_yes (show (wV d2 x2 : Int) ≤ 1048576 - (wV d0 x0 : Int) - (wV d1 x1 : Int) by omega)] at SZ2
  have hsm0 := small_of d0 x0 hf0 (by omega)
  have TO0 := Lib.hid (fun (w1 : World) (hb : Below w.heap.size w w1) => toVecR d0 x0 y0 0 w.heap.size w1 (hv0.below hb (Nat.le_refl _)) hb.size hsm0)
  have QX0 := Lib.hid (fun (w1 : World) (x y : Value) (h : VecAt 0 w1.heap.size w1 d0 x0 x) (k : VecAt 0 w1.heap.size w1 d0 x0 y) => (eqAll d0).out x0 x y 0 w1.heap.size 0 w1.heap.size w1 h (Nat.le_refl _) k (Nat.le_refl _) hf0)
  have hcm0 := cntM_le d0 x0
  have hsm1 := small_of d1 x1 hf1 (by omega)
  have TO1 := Lib.hid (fun (w1 : World) (hb : Below w.heap.size w w1) => toVecR d1 x1 y1 0 w.heap.size w1 (hv1.below hb (Nat.le_refl _)) hb.size hsm1)
  have QX1 := Lib.hid (fun (w1 : World) (x y : Value) (h : VecAt 0 w1.heap.size w1 d1 x1 x) (k : VecAt 0 w1.heap.size w1 d1 x1 y) => (eqAll d1).out x1 x y 0 w1.heap.size 0 w1.heap.size w1 h (Nat.le_refl _) k (Nat.le_refl _) hf1)
  have hcm1 := cntM_le d1 x1
  have hsm2 := small_of d2 x2 hf2 (by omega)
  have TO2 := Lib.hid (fun (w1 : World) (hb : Below w.heap.size w w1) => toVecR d2 x2 y2 0 w.heap.size w1 (hv2.below hb (Nat.le_refl _)) hb.size hsm2)
  have QX2 := Lib.hid (fun (w1 : World) (x y : Value) (h : VecAt 0 w1.heap.size w1 d2 x2 x) (k : VecAt 0 w1.heap.size w1 d2 x2 y) => (eqAll d2).out x2 x y 0 w1.heap.size 0 w1.heap.size w1 h (Nat.le_refl _) k (Nat.le_refl _) hf2)
  have hcm2 := cntM_le d2 x2
  have MX0 := Lib.hid (fun (w1 : World) (y : Value) (lo hi : Nat) (h : Own d0 x0 y lo hi w1) (hh : hi ≤ w1.heap.size) => markOwnX d0 x0 y lo hi w1 h hh hsm0 (by omega))
  have MX1 := Lib.hid (fun (w1 : World) (y : Value) (lo hi : Nat) (h : Own d1 x1 y lo hi w1) (hh : hi ≤ w1.heap.size) => markOwnK d1 x1 y (1 + cntM d0 x0) lo hi w1 h hh hsm1 (by omega) (by omega))
  have MX2 := Lib.hid (fun (w1 : World) (y : Value) (lo hi : Nat) (h : Own d2 x2 y lo hi w1) (hh : hi ≤ w1.heap.size) => markOwnK d2 x2 y (1 + cntM d0 x0 + cntM d1 x1) lo hi w1 h hh hsm2 (by omega) (by omega))
  have SP := Lib.hid (fun (w1 : World) (z0 z1 z2 : Value) (h0 : VecAt 0 w1.heap.size w1 d0 x0 z0) (h1 : VecAt 0 w1.heap.size w1 d1 x1 z1) (h2 : VecAt 0 w1.heap.size w1 d2 x2 z2) (hb : Below w.heap.size w w1) => specChoose d0 d1 d2 x0 x1 x2 z0 z1 z2 0 w1.heap.size w1 h0 h1 h2 (Nat.le_refl _) hsm0 hsm1 hsm2)
  have IM := Lib.hid (fun (w1 : World) (z0 z1 z2 : Value) (h0 : VecAt 0 w1.heap.size w1 d0 x0 z0) (h1 : VecAt 0 w1.heap.size w1 d1 x1 z1) (h2 : VecAt 0 w1.heap.size w1 d2 x2 z2) (hb : Below w.heap.size w w1) => implChoose d0 d1 d2 x0 x1 x2 z0 z1 z2 0 w1.heap.size w1 h0 h1 h2 (Nat.le_refl _) hsm0 hsm1 hsm2 (tab_below tab hb))
  have PV := ch_plain (y := x1) (n := x2) hsm0
  have HS0 := PV.small
  have HF0 := PV.fits
  have HC0 := PV.cnt
  obtain ⟨V, hV⟩ : ∃ V, chV x0 x1 x2 = V := ⟨_, rfl⟩
  obtain ⟨sv, hs⟩ : ∃ s, chS x0 x1 x2 = s := ⟨_, rfl⟩
  rw [hV] at SP IM HS0 HF0 HC0
  rw [hs] at SP IM
  clear hV hs PV hsm0 hsm1 hsm2 hcm0 hcm1 hcm2 tab hsh
  obtain ⟨c0, hc0⟩ : ∃ c, 1 + cntM d0 x0 = c := ⟨_, rfl⟩
  rw [hc0] at MX0 MX1 MX2
  obtain ⟨c1, hc1⟩ : ∃ c, c0 + cntM d1 x1 = c := ⟨_, rfl⟩
  rw [hc1] at MX1 MX2
  obtain ⟨c2, hc2⟩ : ∃ c, c1 + cntM d2 x2 = c := ⟨_, rfl⟩
  rw [hc2] at MX2
  clear hc0 hc1 hc2
  obtain ⟨q0, hq0⟩ : ∃ q, wV d0 x0 = q := ⟨_, rfl⟩
  rw [hq0] at SZ0 hb0 SZ1 hb1 SZ2 hb2
  obtain ⟨q1, hq1⟩ : ∃ q, wV d1 x1 = q := ⟨_, rfl⟩
  rw [hq1] at SZ1 hb1 SZ2 hb2
  obtain ⟨q2, hq2⟩ : ∃ q, wV d2 x2 = q := ⟨_, rfl⟩
  rw [hq2] at SZ2 hb2
  clear hq0 hq1 hq2
  have SMV := Lib.hid (HS0)
  have FTV := Lib.hid (HF0)
  have CMV := Lib.hid (HC0)
  have EQ := Lib.hid (fun (w1 : World) (x y : Value) (h : VecAt 0 w1.heap.size w1 1 V x) (k : VecAt 0 w1.heap.size w1 1 V y) => (eqAll 1).out V x y 0 w1.heap.size 0 w1.heap.size w1 h (Nat.le_refl _) k (Nat.le_refl _) FTV.out)
  have MV := Lib.hid (fun (w1 : World) (y : Value) (lo hi : Nat) (h : Own 1 V y lo hi w1) (hh : hi ≤ w1.heap.size) => markOwn 1 V y lo hi w1 h hh SMV.out CMV.out)
  have HV := Lib.hid (fun (w1 : World) (y : Value) (lo hi : Nat) (h : Own 1 (markV 1 1 V) y lo hi w1) (hh : hi ≤ w1.heap.size) => heldOwn 1 V y lo hi w1 h hh SMV.out CMV.out)
  clear SMV FTV CMV
  obtain ⟨cm, hcm'⟩ : ∃ c, 1 + cntM 1 V = c := ⟨_, rfl⟩
  rw [hcm'] at MV HV
  clear hcm'
  clear HS0 HF0 HC0 hf0 hf1 hf2
  obtain ⟨p0k, p0a1, p0n1, p0m1, p0a2, p0n2, p0m2, p0a3, p0n3, p0m3, p0a4, p0n4, p0m4, p0a5, p0n5, p0m5, p0c, p0e, rfl⟩ := hv0.agg
  obtain ⟨p1k, p1a1, p1n1, p1m1, p1a2, p1n2, p1m2, p1a3, p1n3, p1m3, p1a4, p1n4, p1m4, p1a5, p1n5, p1m5, p1c, p1e, rfl⟩ := hv1.agg
  obtain ⟨p2k, p2a1, p2n1, p2m1, p2a2, p2n2, p2m2, p2a3, p2n3, p2m3, p2a4, p2n4, p2m4, p2a5, p2n5, p2m5, p2c, p2e, rfl⟩ := hv2.agg
  clear hv0 hv1 hv2
  go_enter Tryd.func6, Tryd.ntmps6
  go_wp2_with fail
  obtain ⟨w1, hW⟩ : ∃ W, ((w.alloc (.cells #[.int .i64 p0k, .slice p0a1 p0n1 p0m1, .slice p0a2 p0n2 p0m2, .slice p0a3 p0n3 p0m3, .slice p0a4 p0n4 p0m4, .slice p0a5 p0n5 p0m5, .int .i64 p0c, .int .i64 p0e] 26)).alloc (.cells #[.int .i64 p1k, .slice p1a1 p1n1 p1m1, .slice p1a2 p1n2 p1m2, .slice p1a3 p1n3 p1m3, .slice p1a4 p1n4 p1m4, .slice p1a5 p1n5 p1m5, .int .i64 p1c, .int .i64 p1e] 26)).alloc (.cells #[.int .i64 p2k, .slice p2a1 p2n1 p2m1, .slice p2a2 p2n2 p2m2, .slice p2a3 p2n3 p2m3, .slice p2a4 p2n4 p2m4, .slice p2a5 p2n5 p2m5, .int .i64 p2c, .int .i64 p2e] 26) = W := ⟨_, rfl⟩
  have hz1 : (w.alloc (.cells #[.int .i64 p0k, .slice p0a1 p0n1 p0m1, .slice p0a2 p0n2 p0m2, .slice p0a3 p0n3 p0m3, .slice p0a4 p0n4 p0m4, .slice p0a5 p0n5 p0m5, .int .i64 p0c, .int .i64 p0e] 26)).heap.size = w.heap.size + 1 := by simp
  have hz2 : ((w.alloc (.cells #[.int .i64 p0k, .slice p0a1 p0n1 p0m1, .slice p0a2 p0n2 p0m2, .slice p0a3 p0n3 p0m3, .slice p0a4 p0n4 p0m4, .slice p0a5 p0n5 p0m5, .int .i64 p0c, .int .i64 p0e] 26)).alloc (.cells #[.int .i64 p1k, .slice p1a1 p1n1 p1m1, .slice p1a2 p1n2 p1m2, .slice p1a3 p1n3 p1m3, .slice p1a4 p1n4 p1m4, .slice p1a5 p1n5 p1m5, .int .i64 p1c, .int .i64 p1e] 26)).heap.size = w.heap.size + 1 + 1 := by simp
  have b : Below w.heap.size w w1 := hW ▸ (((below1 w _).alloc (by simp) _).alloc (by simp; omega) _)
  have kb0 : w1.heap[w.heap.size]? = some (.cells #[.int .i64 p0k, .slice p0a1 p0n1 p0m1, .slice p0a2 p0n2 p0m2, .slice p0a3 p0n3 p0m3, .slice p0a4 p0n4 p0m4, .slice p0a5 p0n5 p0m5, .int .i64 p0c, .int .i64 p0e] 26 (0, 0)) := by rw [← hW]; exact blk_old (blk_old (blk_new w _ rfl))
  have kb1 : w1.heap[w.heap.size + 1]? = some (.cells #[.int .i64 p1k, .slice p1a1 p1n1 p1m1, .slice p1a2 p1n2 p1m2, .slice p1a3 p1n3 p1m3, .slice p1a4 p1n4 p1m4, .slice p1a5 p1n5 p1m5, .int .i64 p1c, .int .i64 p1e] 26 (0, 0)) := by rw [← hW]; exact blk_old (blk_new _ _ hz1.symm)
  have kb2 : w1.heap[w.heap.size + 1 + 1]? = some (.cells #[.int .i64 p2k, .slice p2a1 p2n1 p2m1, .slice p2a2 p2n2 p2m2, .slice p2a3 p2n3 p2m3, .slice p2a4 p2n4 p2m4, .slice p2a5 p2n5 p2m5, .int .i64 p2c, .int .i64 p2e] 26 (0, 0)) := by rw [← hW]; exact blk_new _ _ hz2.symm
  rw [hW]
  clear hW hz1 hz2
  have Z1 := Lib.hid b.size
  have B1 := Lib.hid (below_then (Below.refl _ _) b)
  clear b
  have ZSp0 := Lib.hid (Array.getElem?_eq_some_iff.1 kb0).1
  have Kp01 := Lib.hid (kb0)
  have ZSp1 := Lib.hid (Array.getElem?_eq_some_iff.1 kb1).1
  have Kp11 := Lib.hid (kb1)
  have ZSp2 := Lib.hid (Array.getElem?_eq_some_iff.1 kb2).1
  have Kp21 := Lib.hid (kb2)
  clear kb0 kb1 kb2
  with_reducible refine (SZ0.out _ B1.out).mono ?_
  rintro e w2 ⟨rfl, b⟩
  have Z2 := Lib.hid b.size
  have B2 := Lib.hid (below_then B1.out b)
  have Kp02 := Lib.hid (blk_below b Kp01.out)
  clear Kp01
  have Kp12 := Lib.hid (blk_below b Kp11.out)
  clear Kp11
  have Kp22 := Lib.hid (blk_below b Kp21.out)
  clear Kp21
  clear b
  obtain ⟨p1k0, p1k1, p1k2, p1k3, p1k4, p1k5, p1k6, p1k7⟩ := vec8 Kp12.out
  go_wp2_with fail
  with_reducible refine (SZ1.out _ B2.out).mono ?_
  rintro e w3 ⟨rfl, b⟩
  try clear hzp1
  clear p1k0 p1k1 p1k2 p1k3 p1k4 p1k5 p1k6 p1k7
  have Z3 := Lib.hid b.size
  have B3 := Lib.hid (below_then B2.out b)
  have Kp03 := Lib.hid (blk_below b Kp02.out)
  clear Kp02
  have Kp13 := Lib.hid (blk_below b Kp12.out)
  clear Kp12
  have Kp23 := Lib.hid (blk_below b Kp22.out)
  clear Kp22
  clear b
  obtain ⟨p2k0, p2k1, p2k2, p2k3, p2k4, p2k5, p2k6, p2k7⟩ := vec8 Kp23.out
  go_wp2_with fail
  with_reducible refine (SZ2.out _ B3.out).mono ?_
  rintro e w4 ⟨rfl, b⟩
  try clear hzp2
  clear p2k0 p2k1 p2k2 p2k3 p2k4 p2k5 p2k6 p2k7
  have Z4 := Lib.hid b.size
  have B4 := Lib.hid (below_then B3.out b)
  have Kp04 := Lib.hid (blk_below b Kp03.out)
  clear Kp03
  have Kp14 := Lib.hid (blk_below b Kp13.out)
  clear Kp13
  have Kp24 := Lib.hid (blk_below b Kp23.out)
  clear Kp23
  clear b
  go_upto_region 11 with (fail)
  have H := Lib.hid (show HeldC w4 w4 ([(w.heap.size, 26, #[.int .i64 p0k, .slice p0a1 p0n1 p0m1, .slice p0a2 p0n2 p0m2, .slice p0a3 p0n3 p0m3, .slice p0a4 p0n4 p0m4, .slice p0a5 p0n5 p0m5, .int .i64 p0c, .int .i64 p0e]), ((w.heap.size + 1), 26, #[.int .i64 p1k, .slice p1a1 p1n1 p1m1, .slice p1a2 p1n2 p1m2, .slice p1a3 p1n3 p1m3, .slice p1a4 p1n4 p1m4, .slice p1a5 p1n5 p1m5, .int .i64 p1c, .int .i64 p1e]), ((w.heap.size + 1 + 1), 26, #[.int .i64 p2k, .slice p2a1 p2n1 p2m1, .slice p2a2 p2n2 p2m2, .slice p2a3 p2n3 p2m3, .slice p2a4 p2n4 p2m4, .slice p2a5 p2n5 p2m5, .int .i64 p2c, .int .i64 p2e])]) from (heldC_cons (heldC_cons (heldC_cons ⟨Below.refl _ _, (fun _ h => by cases h)⟩ Kp24.out) Kp14.out) Kp04.out))
  go_cut [8, 9] from 35 to 44 (fun pu su wx => ∃ (gu : Nat) (C : Array Value), pu = .pointer (some ⟨gu, 0, none⟩) ∧ su = .string sv ∧ MadeU V w4 wx gu C)
  case first =>
    refine run_regionT (ops := (opsOf Tryd.f6 11)) (S := fun w' => HeldC w4 w' ([(w.heap.size, 26, #[.int .i64 p0k, .slice p0a1 p0n1 p0m1, .slice p0a2 p0n2 p0m2, .slice p0a3 p0n3 p0m3, .slice p0a4 p0n4 p0m4, .slice p0a5 p0n5 p0m5, .int .i64 p0c, .int .i64 p0e]), ((w.heap.size + 1), 26, #[.int .i64 p1k, .slice p1a1 p1n1 p1m1, .slice p1a2 p1n2 p1m2, .slice p1a3 p1n3 p1m3, .slice p1a4 p1n4 p1m4, .slice p1a5 p1n5 p1m5, .int .i64 p1c, .int .i64 p1e]), ((w.heap.size + 1 + 1), 26, #[.int .i64 p2k, .slice p2a1 p2n1 p2m1, .slice p2a2 p2n2 p2m2, .slice p2a3 p2n3 p2m3, .slice p2a4 p2n4 p2m4, .slice p2a5 p2n5 p2m5, .int .i64 p2c, .int .i64 p2e])])) (.fork [(0, true), (2, true), (4, true)] 1 (.fork [] 3 (.fork [] 5 (.fork [] 6 (.leaf [(7, true), (8, true), (9, true), (10, false), (11, false), (12, true)]) 10 (.leaf [(6, false), (7, true), (8, true), (9, true), (11, false), (12, true)])) 10 (.leaf [(5, false), (6, false), (7, true), (8, true), (9, true), (11, false), (12, true)])) 10 (.leaf [(3, false), (5, false), (6, false), (7, true), (8, true), (9, true), (11, false), (12, true)])) 10 (.leaf [(1, false), (3, false), (5, false), (6, false), (7, true), (8, true), (9, true), (11, false), (12, true)])) (by kernel_rfl) (by kernel_rfl) (by kernel_rfl) (by kernel_rfl) (by kernel_rfl) (fun _ _ _ _ _ h => h) (heldC_drew H.out) ?_
    have H := Lib.hid (heldC_drew H.out)
    refine runC_lvec (b := w.heap.size) (show opAt (opsOf Tryd.f6 11) 0 = some (some 36, .load 26 (.tmp 3), none) from by kernel_rfl) (by kernel_rfl) (by kernel_rfl) (by kernel_rfl) (List.Mem.head _) ?_
    refine runC_lvec (b := (w.heap.size + 1)) (show opAt (opsOf Tryd.f6 11) 2 = some (some 38, .load 26 (.tmp 4), none) from by kernel_rfl) (by kernel_rfl) (by kernel_rfl) (by kernel_rfl) (List.Mem.tail _ (List.Mem.head _)) ?_
    refine runC_lvec (b := (w.heap.size + 1 + 1)) (show opAt (opsOf Tryd.f6 11) 4 = some (some 40, .load 26 (.tmp 5), none) from by kernel_rfl) (by kernel_rfl) (by kernel_rfl) (by kernel_rfl) (List.Mem.tail _ (List.Mem.tail _ (List.Mem.head _))) ?_
    refine run_fork H.out (by kernel_rfl) (by kernel_rfl) ?_ ?_
    · refine run_call (args := [.agg #[.int .i64 p0k, .slice p0a1 p0n1 p0m1, .slice p0a2 p0n2 p0m2, .slice p0a3 p0n3 p0m3, .slice p0a4 p0n4 p0m4, .slice p0a5 p0n5 p0m5, .int .i64 p0c, .int .i64 p0e]]) (show opAt (opsOf Tryd.f6 11) 1 = some (some 37, .call { callee := .value (.func 9), args := [(.tmp 36)].toArray, argTypes := [26].toArray }, none) from by kernel_rfl) (by kernel_rfl) (by kernel_rfl) (by kernel_rfl) (by kernel_rfl) ?_
      refine (TO0.out _ (below_then B4.out H.out.1)).mono ?_
      rintro en rw1 ⟨yt0, rfl, ho, hb⟩
      refine ⟨_, rfl, heldC_call H.out hb, ?_⟩
      have H := Lib.hid (heldC_call H.out hb)
      have A0 := Lib.hid (ResV.vatH ho)
      clear ho hb
      refine run_fork H.out (by kernel_rfl) (by kernel_rfl) ?_ ?_
      · refine run_call (args := [.agg #[.int .i64 p1k, .slice p1a1 p1n1 p1m1, .slice p1a2 p1n2 p1m2, .slice p1a3 p1n3 p1m3, .slice p1a4 p1n4 p1m4, .slice p1a5 p1n5 p1m5, .int .i64 p1c, .int .i64 p1e]]) (show opAt (opsOf Tryd.f6 11) 3 = some (some 39, .call { callee := .value (.func 9), args := [(.tmp 38)].toArray, argTypes := [26].toArray }, none) from by kernel_rfl) (by kernel_rfl) (by kernel_rfl) (by kernel_rfl) (by kernel_rfl) ?_
        refine (TO1.out _ (below_then B4.out H.out.1)).mono ?_
        rintro en rw2 ⟨yt1, rfl, ho, hb⟩
        refine ⟨_, rfl, heldC_call H.out hb, ?_⟩
        have H := Lib.hid (heldC_call H.out hb)
        have A0 := Lib.hid (A0.out.keep hb)
        have A1 := Lib.hid (ResV.vatH ho)
        clear ho hb
        refine run_fork H.out (by kernel_rfl) (by kernel_rfl) ?_ ?_
        · refine run_call (args := [.agg #[.int .i64 p2k, .slice p2a1 p2n1 p2m1, .slice p2a2 p2n2 p2m2, .slice p2a3 p2n3 p2m3, .slice p2a4 p2n4 p2m4, .slice p2a5 p2n5 p2m5, .int .i64 p2c, .int .i64 p2e]]) (show opAt (opsOf Tryd.f6 11) 5 = some (some 41, .call { callee := .value (.func 9), args := [(.tmp 40)].toArray, argTypes := [26].toArray }, none) from by kernel_rfl) (by kernel_rfl) (by kernel_rfl) (by kernel_rfl) (by kernel_rfl) ?_
          refine (TO2.out _ (below_then B4.out H.out.1)).mono ?_
          rintro en rw3 ⟨yt2, rfl, ho, hb⟩
          refine ⟨_, rfl, heldC_call H.out hb, ?_⟩
          have H := Lib.hid (heldC_call H.out hb)
          have A0 := Lib.hid (A0.out.keep hb)
          have A1 := Lib.hid (A1.out.keep hb)
          have A2 := Lib.hid (ResV.vatH ho)
          clear ho hb
          refine run_fork H.out (by kernel_rfl) (by kernel_rfl) ?_ ?_
          · refine run_call (args := [yt0, yt1, yt2]) (show opAt (opsOf Tryd.f6 11) 6 = some (some 42, .call { callee := .value (.func 26), args := [(.tmp 37), (.tmp 39), (.tmp 41)].toArray, argTypes := [31, 31, 31].toArray }, none) from by kernel_rfl) (by kernel_rfl) (by kernel_rfl) (by kernel_rfl) (by kernel_rfl) ?_
            refine (SP.out _ yt0 yt1 yt2 A0.out.out A1.out.out A2.out.out (below_then B4.out H.out.1)).mono ?_
            rintro en rw4 ⟨yu, rfl, ho, hb⟩
            refine ⟨_, rfl, heldC_call H.out hb, ?_⟩
            obtain ⟨yuk, yua1, yun1, yum1, yua2, yun2, yum2, yua3, yun3, yum3, yua4, yun4, yum4, yua5, yun5, yum5, yuc, yue, rfl⟩ := ho.agg
            (try have UB := Lib.hid (Array.getElem?_eq_some_iff.1 N10.out.out).1)
            have LU := Lib.hid H.out.1.size
            have H := Lib.hid (heldC_call H.out hb)
            have A0 := Lib.hid (A0.out.keep hb)
            have A1 := Lib.hid (A1.out.keep hb)
            have A2 := Lib.hid (A2.out.keep hb)
            have OU := Lib.hid (⟨ho, Nat.le_refl _⟩ : OwnH 1 V _ _ _ _)
            clear ho hb
            refine run_mov (v := .tuple #[.agg #[.int .i64 yuk, .slice yua1 yun1 yum1, .slice yua2 yun2 yum2, .slice yua3 yun3 yum3, .slice yua4 yun4 yum4, .slice yua5 yun5 yum5, .int .i64 yuc, .int .i64 yue], .string sv]) (show opAt (opsOf Tryd.f6 11) 7 = some (some 35, .move (.tmp 42), none) from by kernel_rfl) (by kernel_rfl) (by kernel_rfl) (by kernel_rfl) ?_
            refine run_extract (vs := #[.agg #[.int .i64 yuk, .slice yua1 yun1 yum1, .slice yua2 yun2 yum2, .slice yua3 yun3 yum3, .slice yua4 yun4 yum4, .slice yua5 yun5 yum5, .int .i64 yuc, .int .i64 yue], .string sv]) (v := .agg #[.int .i64 yuk, .slice yua1 yun1 yum1, .slice yua2 yun2 yum2, .slice yua3 yun3 yum3, .slice yua4 yun4 yum4, .slice yua5 yun5 yum5, .int .i64 yuc, .int .i64 yue]) (show opAt (opsOf Tryd.f6 11) 8 = some (some 43, .extract (.tmp 35) 0, none) from by kernel_rfl) (by kernel_rfl) (by kernel_rfl) (by kernel_rfl) (by rfl) ?_
            refine run_extract (vs := #[.agg #[.int .i64 yuk, .slice yua1 yun1 yum1, .slice yua2 yun2 yum2, .slice yua3 yun3 yum3, .slice yua4 yun4 yum4, .slice yua5 yun5 yum5, .int .i64 yuc, .int .i64 yue], .string sv]) (v := .string sv) (show opAt (opsOf Tryd.f6 11) 9 = some (some 44, .extract (.tmp 35) 1, none) from by kernel_rfl) (by kernel_rfl) (by kernel_rfl) (by kernel_rfl) (by rfl) ?_
            refine run_new (C := #[.int .i64 0, .slice none 0 0, .slice none 0 0, .slice none 0 0, .slice none 0 0, .slice none 0 0, .int .i64 0, .int .i64 0]) (show opAt (opsOf Tryd.f6 11) 10 = some (some 8, .alloc 31, none) from by kernel_rfl) (by kernel_rfl) (by kernel_rfl) new_vec (fun W10 n10 hW10 hn10 => ?_)
            subst hW10
            refine ⟨heldC_call H.out (below1 _ _), ?_⟩
            have N10 := Lib.hid (⟨blk_new _ _ hn10⟩ : NewB n10 31 #[.int .i64 0, .slice none 0 0, .slice none 0 0, .slice none 0 0, .slice none 0 0, .slice none 0 0, .int .i64 0, .int .i64 0] _)
            have G10 := Lib.hid (by rw [hn10]; exact H.out.1.size : w4.heap.size ≤ n10)
            have F10_0 := Lib.hid (by rw [hn10]; exact (Array.getElem?_eq_some_iff.1 (heldC_at H.out (List.Mem.head _))).1 : w.heap.size < n10)
            have F10_1 := Lib.hid (by rw [hn10]; exact (Array.getElem?_eq_some_iff.1 (heldC_at H.out (List.Mem.tail _ (List.Mem.head _)))).1 : (w.heap.size + 1) < n10)
            have F10_2 := Lib.hid (by rw [hn10]; exact (Array.getElem?_eq_some_iff.1 (heldC_at H.out (List.Mem.tail _ (List.Mem.tail _ (List.Mem.head _))))).1 : (w.heap.size + 1 + 1) < n10)
            have A0 := Lib.hid (A0.out.keep (below1 _ (.cells #[.int .i64 0, .slice none 0 0, .slice none 0 0, .slice none 0 0, .slice none 0 0, .slice none 0 0, .int .i64 0, .int .i64 0] 31)))
            have A1 := Lib.hid (A1.out.keep (below1 _ (.cells #[.int .i64 0, .slice none 0 0, .slice none 0 0, .slice none 0 0, .slice none 0 0, .slice none 0 0, .int .i64 0, .int .i64 0] 31)))
            have A2 := Lib.hid (A2.out.keep (below1 _ (.cells #[.int .i64 0, .slice none 0 0, .slice none 0 0, .slice none 0 0, .slice none 0 0, .slice none 0 0, .int .i64 0, .int .i64 0] 31)))
            have OU := Lib.hid (OU.out.keep (below1 _ (.cells #[.int .i64 0, .slice none 0 0, .slice none 0 0, .slice none 0 0, .slice none 0 0, .slice none 0 0, .int .i64 0, .int .i64 0] 31)))
            have H := Lib.hid (heldC_call H.out (below1 _ (.cells #[.int .i64 0, .slice none 0 0, .slice none 0 0, .slice none 0 0, .slice none 0 0, .slice none 0 0, .int .i64 0, .int .i64 0] 31)))
            have NE10 := Lib.hid hn10
            clear hn10
            refine run_store (w' := World.setRow _ n10 #[.int .i64 yuk, .slice yua1 yun1 yum1, .slice yua2 yun2 yum2, .slice yua3 yun3 yum3, .slice yua4 yun4 yum4, .slice yua5 yun5 yum5, .int .i64 yuc, .int .i64 yue]) (show opAt (opsOf Tryd.f6 11) 11 = some (none, .store 31 (.tmp 8) (.tmp 43), none) from by kernel_rfl) (by kernel_rfl) (by kernel_rfl) (by kernel_rfl) (store_vec8 N10.out.out (by simp [Value.oneCell'])) (⟨below_row H.out.1 G10.out _, fun q hq => row_old (H.out.2 q hq) (by have := F10_0.out; have := F10_1.out; have := F10_2.out; simp only [List.mem_cons, List.not_mem_nil, or_false] at hq; rcases hq with rfl | rfl | rfl <;> (simp only; omega))⟩) ?_
            refine run_asg (v := .string sv) (show opAt (opsOf Tryd.f6 11) 12 = some (some 9, .assign (.tmp 44), none) from by kernel_rfl) (by kernel_rfl) (by kernel_rfl) (by kernel_rfl) ?_
            refine run_done ?_
            simp only [putAll, Act.put, List.setIfInBounds_toArray, List.set_cons_zero, List.set_cons_succ]
            go_wp2_with fail
            go_meet
            exact ⟨_, _, rfl, rfl, ⟨row_set N10.out.out, (OU.out.own.rowO (by first | (left; have := UB.out; omega) | (right; have := NE10.out; omega))).wide LU.out (Nat.le_trans OU.out.hh (row_size _ _ _)), below_row H.out.1 G10.out _, G10.out⟩⟩
          · refine run_new (C := #[.int .i64 0, .slice none 0 0, .slice none 0 0, .slice none 0 0, .slice none 0 0, .slice none 0 0, .int .i64 0, .int .i64 0]) (show opAt (opsOf Tryd.f6 11) 10 = some (some 8, .alloc 31, none) from by kernel_rfl) (by kernel_rfl) (by kernel_rfl) new_vec (fun W10 n10 hW10 hn10 => ?_)
            subst hW10
            refine ⟨heldC_call H.out (below1 _ _), ?_⟩
            have N10 := Lib.hid (⟨blk_new _ _ hn10⟩ : NewB n10 31 #[.int .i64 0, .slice none 0 0, .slice none 0 0, .slice none 0 0, .slice none 0 0, .slice none 0 0, .int .i64 0, .int .i64 0] _)
            have G10 := Lib.hid (by rw [hn10]; exact H.out.1.size : w4.heap.size ≤ n10)
            have F10_0 := Lib.hid (by rw [hn10]; exact (Array.getElem?_eq_some_iff.1 (heldC_at H.out (List.Mem.head _))).1 : w.heap.size < n10)
            have F10_1 := Lib.hid (by rw [hn10]; exact (Array.getElem?_eq_some_iff.1 (heldC_at H.out (List.Mem.tail _ (List.Mem.head _)))).1 : (w.heap.size + 1) < n10)
            have F10_2 := Lib.hid (by rw [hn10]; exact (Array.getElem?_eq_some_iff.1 (heldC_at H.out (List.Mem.tail _ (List.Mem.tail _ (List.Mem.head _))))).1 : (w.heap.size + 1 + 1) < n10)
            have A0 := Lib.hid (A0.out.keep (below1 _ (.cells #[.int .i64 0, .slice none 0 0, .slice none 0 0, .slice none 0 0, .slice none 0 0, .slice none 0 0, .int .i64 0, .int .i64 0] 31)))
            have A1 := Lib.hid (A1.out.keep (below1 _ (.cells #[.int .i64 0, .slice none 0 0, .slice none 0 0, .slice none 0 0, .slice none 0 0, .slice none 0 0, .int .i64 0, .int .i64 0] 31)))
            have A2 := Lib.hid (A2.out.keep (below1 _ (.cells #[.int .i64 0, .slice none 0 0, .slice none 0 0, .slice none 0 0, .slice none 0 0, .slice none 0 0, .int .i64 0, .int .i64 0] 31)))
            have H := Lib.hid (heldC_call H.out (below1 _ (.cells #[.int .i64 0, .slice none 0 0, .slice none 0 0, .slice none 0 0, .slice none 0 0, .slice none 0 0, .int .i64 0, .int .i64 0] 31)))
            have NE10 := Lib.hid hn10
            clear hn10
            refine run_call (args := [yt0, yt1, yt2]) (show opAt (opsOf Tryd.f6 11) 6 = some (some 42, .call { callee := .value (.func 26), args := [(.tmp 37), (.tmp 39), (.tmp 41)].toArray, argTypes := [31, 31, 31].toArray }, none) from by kernel_rfl) (by kernel_rfl) (by kernel_rfl) (by kernel_rfl) (by kernel_rfl) ?_
            refine (SP.out _ yt0 yt1 yt2 A0.out.out A1.out.out A2.out.out (below_then B4.out H.out.1)).mono ?_
            rintro en rw4 ⟨yu, rfl, ho, hb⟩
            refine ⟨_, rfl, heldC_call H.out hb, ?_⟩
            obtain ⟨yuk, yua1, yun1, yum1, yua2, yun2, yum2, yua3, yun3, yum3, yua4, yun4, yum4, yua5, yun5, yum5, yuc, yue, rfl⟩ := ho.agg
            (try have UB := Lib.hid (Array.getElem?_eq_some_iff.1 N10.out.out).1)
            have LU := Lib.hid H.out.1.size
            have H := Lib.hid (heldC_call H.out hb)
            have A0 := Lib.hid (A0.out.keep hb)
            have A1 := Lib.hid (A1.out.keep hb)
            have A2 := Lib.hid (A2.out.keep hb)
            have N10 := Lib.hid (N10.out.keep hb)
            have OU := Lib.hid (⟨ho, Nat.le_refl _⟩ : OwnH 1 V _ _ _ _)
            clear ho hb
            refine run_mov (v := .tuple #[.agg #[.int .i64 yuk, .slice yua1 yun1 yum1, .slice yua2 yun2 yum2, .slice yua3 yun3 yum3, .slice yua4 yun4 yum4, .slice yua5 yun5 yum5, .int .i64 yuc, .int .i64 yue], .string sv]) (show opAt (opsOf Tryd.f6 11) 7 = some (some 35, .move (.tmp 42), none) from by kernel_rfl) (by kernel_rfl) (by kernel_rfl) (by kernel_rfl) ?_
            refine run_extract (vs := #[.agg #[.int .i64 yuk, .slice yua1 yun1 yum1, .slice yua2 yun2 yum2, .slice yua3 yun3 yum3, .slice yua4 yun4 yum4, .slice yua5 yun5 yum5, .int .i64 yuc, .int .i64 yue], .string sv]) (v := .agg #[.int .i64 yuk, .slice yua1 yun1 yum1, .slice yua2 yun2 yum2, .slice yua3 yun3 yum3, .slice yua4 yun4 yum4, .slice yua5 yun5 yum5, .int .i64 yuc, .int .i64 yue]) (show opAt (opsOf Tryd.f6 11) 8 = some (some 43, .extract (.tmp 35) 0, none) from by kernel_rfl) (by kernel_rfl) (by kernel_rfl) (by kernel_rfl) (by rfl) ?_
            refine run_extract (vs := #[.agg #[.int .i64 yuk, .slice yua1 yun1 yum1, .slice yua2 yun2 yum2, .slice yua3 yun3 yum3, .slice yua4 yun4 yum4, .slice yua5 yun5 yum5, .int .i64 yuc, .int .i64 yue], .string sv]) (v := .string sv) (show opAt (opsOf Tryd.f6 11) 9 = some (some 44, .extract (.tmp 35) 1, none) from by kernel_rfl) (by kernel_rfl) (by kernel_rfl) (by kernel_rfl) (by rfl) ?_
            refine run_store (w' := World.setRow _ n10 #[.int .i64 yuk, .slice yua1 yun1 yum1, .slice yua2 yun2 yum2, .slice yua3 yun3 yum3, .slice yua4 yun4 yum4, .slice yua5 yun5 yum5, .int .i64 yuc, .int .i64 yue]) (show opAt (opsOf Tryd.f6 11) 11 = some (none, .store 31 (.tmp 8) (.tmp 43), none) from by kernel_rfl) (by kernel_rfl) (by kernel_rfl) (by kernel_rfl) (store_vec8 N10.out.out (by simp [Value.oneCell'])) (⟨below_row H.out.1 G10.out _, fun q hq => row_old (H.out.2 q hq) (by have := F10_0.out; have := F10_1.out; have := F10_2.out; simp only [List.mem_cons, List.not_mem_nil, or_false] at hq; rcases hq with rfl | rfl | rfl <;> (simp only; omega))⟩) ?_
            refine run_asg (v := .string sv) (show opAt (opsOf Tryd.f6 11) 12 = some (some 9, .assign (.tmp 44), none) from by kernel_rfl) (by kernel_rfl) (by kernel_rfl) (by kernel_rfl) ?_
            refine run_done ?_
            simp only [putAll, Act.put, List.setIfInBounds_toArray, List.set_cons_zero, List.set_cons_succ]
            go_wp2_with fail
            go_meet
            exact ⟨_, _, rfl, rfl, ⟨row_set N10.out.out, (OU.out.own.rowO (by first | (left; have := UB.out; omega) | (right; have := NE10.out; omega))).wide LU.out (Nat.le_trans OU.out.hh (row_size _ _ _)), below_row H.out.1 G10.out _, G10.out⟩⟩
        · refine run_new (C := #[.int .i64 0, .slice none 0 0, .slice none 0 0, .slice none 0 0, .slice none 0 0, .slice none 0 0, .int .i64 0, .int .i64 0]) (show opAt (opsOf Tryd.f6 11) 10 = some (some 8, .alloc 31, none) from by kernel_rfl) (by kernel_rfl) (by kernel_rfl) new_vec (fun W10 n10 hW10 hn10 => ?_)
          subst hW10
          refine ⟨heldC_call H.out (below1 _ _), ?_⟩
          have N10 := Lib.hid (⟨blk_new _ _ hn10⟩ : NewB n10 31 #[.int .i64 0, .slice none 0 0, .slice none 0 0, .slice none 0 0, .slice none 0 0, .slice none 0 0, .int .i64 0, .int .i64 0] _)
          have G10 := Lib.hid (by rw [hn10]; exact H.out.1.size : w4.heap.size ≤ n10)
          have F10_0 := Lib.hid (by rw [hn10]; exact (Array.getElem?_eq_some_iff.1 (heldC_at H.out (List.Mem.head _))).1 : w.heap.size < n10)
          have F10_1 := Lib.hid (by rw [hn10]; exact (Array.getElem?_eq_some_iff.1 (heldC_at H.out (List.Mem.tail _ (List.Mem.head _)))).1 : (w.heap.size + 1) < n10)
          have F10_2 := Lib.hid (by rw [hn10]; exact (Array.getElem?_eq_some_iff.1 (heldC_at H.out (List.Mem.tail _ (List.Mem.tail _ (List.Mem.head _))))).1 : (w.heap.size + 1 + 1) < n10)
          have A0 := Lib.hid (A0.out.keep (below1 _ (.cells #[.int .i64 0, .slice none 0 0, .slice none 0 0, .slice none 0 0, .slice none 0 0, .slice none 0 0, .int .i64 0, .int .i64 0] 31)))
          have A1 := Lib.hid (A1.out.keep (below1 _ (.cells #[.int .i64 0, .slice none 0 0, .slice none 0 0, .slice none 0 0, .slice none 0 0, .slice none 0 0, .int .i64 0, .int .i64 0] 31)))
          have H := Lib.hid (heldC_call H.out (below1 _ (.cells #[.int .i64 0, .slice none 0 0, .slice none 0 0, .slice none 0 0, .slice none 0 0, .slice none 0 0, .int .i64 0, .int .i64 0] 31)))
          have NE10 := Lib.hid hn10
          clear hn10
          refine run_call (args := [.agg #[.int .i64 p2k, .slice p2a1 p2n1 p2m1, .slice p2a2 p2n2 p2m2, .slice p2a3 p2n3 p2m3, .slice p2a4 p2n4 p2m4, .slice p2a5 p2n5 p2m5, .int .i64 p2c, .int .i64 p2e]]) (show opAt (opsOf Tryd.f6 11) 5 = some (some 41, .call { callee := .value (.func 9), args := [(.tmp 40)].toArray, argTypes := [26].toArray }, none) from by kernel_rfl) (by kernel_rfl) (by kernel_rfl) (by kernel_rfl) (by kernel_rfl) ?_
          refine (TO2.out _ (below_then B4.out H.out.1)).mono ?_
          rintro en rw3 ⟨yt2, rfl, ho, hb⟩
          refine ⟨_, rfl, heldC_call H.out hb, ?_⟩
          have H := Lib.hid (heldC_call H.out hb)
          have A0 := Lib.hid (A0.out.keep hb)
          have A1 := Lib.hid (A1.out.keep hb)
          have N10 := Lib.hid (N10.out.keep hb)
          have A2 := Lib.hid (ResV.vatH ho)
          clear ho hb
          refine run_call (args := [yt0, yt1, yt2]) (show opAt (opsOf Tryd.f6 11) 6 = some (some 42, .call { callee := .value (.func 26), args := [(.tmp 37), (.tmp 39), (.tmp 41)].toArray, argTypes := [31, 31, 31].toArray }, none) from by kernel_rfl) (by kernel_rfl) (by kernel_rfl) (by kernel_rfl) (by kernel_rfl) ?_
          refine (SP.out _ yt0 yt1 yt2 A0.out.out A1.out.out A2.out.out (below_then B4.out H.out.1)).mono ?_
          rintro en rw4 ⟨yu, rfl, ho, hb⟩
          refine ⟨_, rfl, heldC_call H.out hb, ?_⟩
          obtain ⟨yuk, yua1, yun1, yum1, yua2, yun2, yum2, yua3, yun3, yum3, yua4, yun4, yum4, yua5, yun5, yum5, yuc, yue, rfl⟩ := ho.agg
          (try have UB := Lib.hid (Array.getElem?_eq_some_iff.1 N10.out.out).1)
          have LU := Lib.hid H.out.1.size
          have H := Lib.hid (heldC_call H.out hb)
          have A0 := Lib.hid (A0.out.keep hb)
          have A1 := Lib.hid (A1.out.keep hb)
          have N10 := Lib.hid (N10.out.keep hb)
          have A2 := Lib.hid (A2.out.keep hb)
          have OU := Lib.hid (⟨ho, Nat.le_refl _⟩ : OwnH 1 V _ _ _ _)
          clear ho hb
          refine run_mov (v := .tuple #[.agg #[.int .i64 yuk, .slice yua1 yun1 yum1, .slice yua2 yun2 yum2, .slice yua3 yun3 yum3, .slice yua4 yun4 yum4, .slice yua5 yun5 yum5, .int .i64 yuc, .int .i64 yue], .string sv]) (show opAt (opsOf Tryd.f6 11) 7 = some (some 35, .move (.tmp 42), none) from by kernel_rfl) (by kernel_rfl) (by kernel_rfl) (by kernel_rfl) ?_
          refine run_extract (vs := #[.agg #[.int .i64 yuk, .slice yua1 yun1 yum1, .slice yua2 yun2 yum2, .slice yua3 yun3 yum3, .slice yua4 yun4 yum4, .slice yua5 yun5 yum5, .int .i64 yuc, .int .i64 yue], .string sv]) (v := .agg #[.int .i64 yuk, .slice yua1 yun1 yum1, .slice yua2 yun2 yum2, .slice yua3 yun3 yum3, .slice yua4 yun4 yum4, .slice yua5 yun5 yum5, .int .i64 yuc, .int .i64 yue]) (show opAt (opsOf Tryd.f6 11) 8 = some (some 43, .extract (.tmp 35) 0, none) from by kernel_rfl) (by kernel_rfl) (by kernel_rfl) (by kernel_rfl) (by rfl) ?_
          refine run_extract (vs := #[.agg #[.int .i64 yuk, .slice yua1 yun1 yum1, .slice yua2 yun2 yum2, .slice yua3 yun3 yum3, .slice yua4 yun4 yum4, .slice yua5 yun5 yum5, .int .i64 yuc, .int .i64 yue], .string sv]) (v := .string sv) (show opAt (opsOf Tryd.f6 11) 9 = some (some 44, .extract (.tmp 35) 1, none) from by kernel_rfl) (by kernel_rfl) (by kernel_rfl) (by kernel_rfl) (by rfl) ?_
          refine run_store (w' := World.setRow _ n10 #[.int .i64 yuk, .slice yua1 yun1 yum1, .slice yua2 yun2 yum2, .slice yua3 yun3 yum3, .slice yua4 yun4 yum4, .slice yua5 yun5 yum5, .int .i64 yuc, .int .i64 yue]) (show opAt (opsOf Tryd.f6 11) 11 = some (none, .store 31 (.tmp 8) (.tmp 43), none) from by kernel_rfl) (by kernel_rfl) (by kernel_rfl) (by kernel_rfl) (store_vec8 N10.out.out (by simp [Value.oneCell'])) (⟨below_row H.out.1 G10.out _, fun q hq => row_old (H.out.2 q hq) (by have := F10_0.out; have := F10_1.out; have := F10_2.out; simp only [List.mem_cons, List.not_mem_nil, or_false] at hq; rcases hq with rfl | rfl | rfl <;> (simp only; omega))⟩) ?_
          refine run_asg (v := .string sv) (show opAt (opsOf Tryd.f6 11) 12 = some (some 9, .assign (.tmp 44), none) from by kernel_rfl) (by kernel_rfl) (by kernel_rfl) (by kernel_rfl) ?_
          refine run_done ?_
          simp only [putAll, Act.put, List.setIfInBounds_toArray, List.set_cons_zero, List.set_cons_succ]
          go_wp2_with fail
          go_meet
          exact ⟨_, _, rfl, rfl, ⟨row_set N10.out.out, (OU.out.own.rowO (by first | (left; have := UB.out; omega) | (right; have := NE10.out; omega))).wide LU.out (Nat.le_trans OU.out.hh (row_size _ _ _)), below_row H.out.1 G10.out _, G10.out⟩⟩
      · refine run_new (C := #[.int .i64 0, .slice none 0 0, .slice none 0 0, .slice none 0 0, .slice none 0 0, .slice none 0 0, .int .i64 0, .int .i64 0]) (show opAt (opsOf Tryd.f6 11) 10 = some (some 8, .alloc 31, none) from by kernel_rfl) (by kernel_rfl) (by kernel_rfl) new_vec (fun W10 n10 hW10 hn10 => ?_)
        subst hW10
        refine ⟨heldC_call H.out (below1 _ _), ?_⟩
        have N10 := Lib.hid (⟨blk_new _ _ hn10⟩ : NewB n10 31 #[.int .i64 0, .slice none 0 0, .slice none 0 0, .slice none 0 0, .slice none 0 0, .slice none 0 0, .int .i64 0, .int .i64 0] _)
        have G10 := Lib.hid (by rw [hn10]; exact H.out.1.size : w4.heap.size ≤ n10)
        have F10_0 := Lib.hid (by rw [hn10]; exact (Array.getElem?_eq_some_iff.1 (heldC_at H.out (List.Mem.head _))).1 : w.heap.size < n10)
        have F10_1 := Lib.hid (by rw [hn10]; exact (Array.getElem?_eq_some_iff.1 (heldC_at H.out (List.Mem.tail _ (List.Mem.head _)))).1 : (w.heap.size + 1) < n10)
        have F10_2 := Lib.hid (by rw [hn10]; exact (Array.getElem?_eq_some_iff.1 (heldC_at H.out (List.Mem.tail _ (List.Mem.tail _ (List.Mem.head _))))).1 : (w.heap.size + 1 + 1) < n10)
        have A0 := Lib.hid (A0.out.keep (below1 _ (.cells #[.int .i64 0, .slice none 0 0, .slice none 0 0, .slice none 0 0, .slice none 0 0, .slice none 0 0, .int .i64 0, .int .i64 0] 31)))
        have H := Lib.hid (heldC_call H.out (below1 _ (.cells #[.int .i64 0, .slice none 0 0, .slice none 0 0, .slice none 0 0, .slice none 0 0, .slice none 0 0, .int .i64 0, .int .i64 0] 31)))
        have NE10 := Lib.hid hn10
        clear hn10
        refine run_call (args := [.agg #[.int .i64 p1k, .slice p1a1 p1n1 p1m1, .slice p1a2 p1n2 p1m2, .slice p1a3 p1n3 p1m3, .slice p1a4 p1n4 p1m4, .slice p1a5 p1n5 p1m5, .int .i64 p1c, .int .i64 p1e]]) (show opAt (opsOf Tryd.f6 11) 3 = some (some 39, .call { callee := .value (.func 9), args := [(.tmp 38)].toArray, argTypes := [26].toArray }, none) from by kernel_rfl) (by kernel_rfl) (by kernel_rfl) (by kernel_rfl) (by kernel_rfl) ?_
        refine (TO1.out _ (below_then B4.out H.out.1)).mono ?_
        rintro en rw2 ⟨yt1, rfl, ho, hb⟩
        refine ⟨_, rfl, heldC_call H.out hb, ?_⟩
        have H := Lib.hid (heldC_call H.out hb)
        have A0 := Lib.hid (A0.out.keep hb)
        have N10 := Lib.hid (N10.out.keep hb)
        have A1 := Lib.hid (ResV.vatH ho)
        clear ho hb
        refine run_call (args := [.agg #[.int .i64 p2k, .slice p2a1 p2n1 p2m1, .slice p2a2 p2n2 p2m2, .slice p2a3 p2n3 p2m3, .slice p2a4 p2n4 p2m4, .slice p2a5 p2n5 p2m5, .int .i64 p2c, .int .i64 p2e]]) (show opAt (opsOf Tryd.f6 11) 5 = some (some 41, .call { callee := .value (.func 9), args := [(.tmp 40)].toArray, argTypes := [26].toArray }, none) from by kernel_rfl) (by kernel_rfl) (by kernel_rfl) (by kernel_rfl) (by kernel_rfl) ?_
        refine (TO2.out _ (below_then B4.out H.out.1)).mono ?_
        rintro en rw3 ⟨yt2, rfl, ho, hb⟩
        refine ⟨_, rfl, heldC_call H.out hb, ?_⟩
        have H := Lib.hid (heldC_call H.out hb)
        have A0 := Lib.hid (A0.out.keep hb)
        have N10 := Lib.hid (N10.out.keep hb)
        have A1 := Lib.hid (A1.out.keep hb)
        have A2 := Lib.hid (ResV.vatH ho)
        clear ho hb
        refine run_call (args := [yt0, yt1, yt2]) (show opAt (opsOf Tryd.f6 11) 6 = some (some 42, .call { callee := .value (.func 26), args := [(.tmp 37), (.tmp 39), (.tmp 41)].toArray, argTypes := [31, 31, 31].toArray }, none) from by kernel_rfl) (by kernel_rfl) (by kernel_rfl) (by kernel_rfl) (by kernel_rfl) ?_
        refine (SP.out _ yt0 yt1 yt2 A0.out.out A1.out.out A2.out.out (below_then B4.out H.out.1)).mono ?_
        rintro en rw4 ⟨yu, rfl, ho, hb⟩
        refine ⟨_, rfl, heldC_call H.out hb, ?_⟩
        obtain ⟨yuk, yua1, yun1, yum1, yua2, yun2, yum2, yua3, yun3, yum3, yua4, yun4, yum4, yua5, yun5, yum5, yuc, yue, rfl⟩ := ho.agg
        (try have UB := Lib.hid (Array.getElem?_eq_some_iff.1 N10.out.out).1)
        have LU := Lib.hid H.out.1.size
        have H := Lib.hid (heldC_call H.out hb)
        have A0 := Lib.hid (A0.out.keep hb)
        have N10 := Lib.hid (N10.out.keep hb)
        have A1 := Lib.hid (A1.out.keep hb)
        have A2 := Lib.hid (A2.out.keep hb)
        have OU := Lib.hid (⟨ho, Nat.le_refl _⟩ : OwnH 1 V _ _ _ _)
        clear ho hb
        refine run_mov (v := .tuple #[.agg #[.int .i64 yuk, .slice yua1 yun1 yum1, .slice yua2 yun2 yum2, .slice yua3 yun3 yum3, .slice yua4 yun4 yum4, .slice yua5 yun5 yum5, .int .i64 yuc, .int .i64 yue], .string sv]) (show opAt (opsOf Tryd.f6 11) 7 = some (some 35, .move (.tmp 42), none) from by kernel_rfl) (by kernel_rfl) (by kernel_rfl) (by kernel_rfl) ?_
        refine run_extract (vs := #[.agg #[.int .i64 yuk, .slice yua1 yun1 yum1, .slice yua2 yun2 yum2, .slice yua3 yun3 yum3, .slice yua4 yun4 yum4, .slice yua5 yun5 yum5, .int .i64 yuc, .int .i64 yue], .string sv]) (v := .agg #[.int .i64 yuk, .slice yua1 yun1 yum1, .slice yua2 yun2 yum2, .slice yua3 yun3 yum3, .slice yua4 yun4 yum4, .slice yua5 yun5 yum5, .int .i64 yuc, .int .i64 yue]) (show opAt (opsOf Tryd.f6 11) 8 = some (some 43, .extract (.tmp 35) 0, none) from by kernel_rfl) (by kernel_rfl) (by kernel_rfl) (by kernel_rfl) (by rfl) ?_
        refine run_extract (vs := #[.agg #[.int .i64 yuk, .slice yua1 yun1 yum1, .slice yua2 yun2 yum2, .slice yua3 yun3 yum3, .slice yua4 yun4 yum4, .slice yua5 yun5 yum5, .int .i64 yuc, .int .i64 yue], .string sv]) (v := .string sv) (show opAt (opsOf Tryd.f6 11) 9 = some (some 44, .extract (.tmp 35) 1, none) from by kernel_rfl) (by kernel_rfl) (by kernel_rfl) (by kernel_rfl) (by rfl) ?_
        refine run_store (w' := World.setRow _ n10 #[.int .i64 yuk, .slice yua1 yun1 yum1, .slice yua2 yun2 yum2, .slice yua3 yun3 yum3, .slice yua4 yun4 yum4, .slice yua5 yun5 yum5, .int .i64 yuc, .int .i64 yue]) (show opAt (opsOf Tryd.f6 11) 11 = some (none, .store 31 (.tmp 8) (.tmp 43), none) from by kernel_rfl) (by kernel_rfl) (by kernel_rfl) (by kernel_rfl) (store_vec8 N10.out.out (by simp [Value.oneCell'])) (⟨below_row H.out.1 G10.out _, fun q hq => row_old (H.out.2 q hq) (by have := F10_0.out; have := F10_1.out; have := F10_2.out; simp only [List.mem_cons, List.not_mem_nil, or_false] at hq; rcases hq with rfl | rfl | rfl <;> (simp only; omega))⟩) ?_
        refine run_asg (v := .string sv) (show opAt (opsOf Tryd.f6 11) 12 = some (some 9, .assign (.tmp 44), none) from by kernel_rfl) (by kernel_rfl) (by kernel_rfl) (by kernel_rfl) ?_
        refine run_done ?_
        simp only [putAll, Act.put, List.setIfInBounds_toArray, List.set_cons_zero, List.set_cons_succ]
        go_wp2_with fail
        go_meet
        exact ⟨_, _, rfl, rfl, ⟨row_set N10.out.out, (OU.out.own.rowO (by first | (left; have := UB.out; omega) | (right; have := NE10.out; omega))).wide LU.out (Nat.le_trans OU.out.hh (row_size _ _ _)), below_row H.out.1 G10.out _, G10.out⟩⟩
    · refine run_new (C := #[.int .i64 0, .slice none 0 0, .slice none 0 0, .slice none 0 0, .slice none 0 0, .slice none 0 0, .int .i64 0, .int .i64 0]) (show opAt (opsOf Tryd.f6 11) 10 = some (some 8, .alloc 31, none) from by kernel_rfl) (by kernel_rfl) (by kernel_rfl) new_vec (fun W10 n10 hW10 hn10 => ?_)
      subst hW10
      refine ⟨heldC_call H.out (below1 _ _), ?_⟩
      have N10 := Lib.hid (⟨blk_new _ _ hn10⟩ : NewB n10 31 #[.int .i64 0, .slice none 0 0, .slice none 0 0, .slice none 0 0, .slice none 0 0, .slice none 0 0, .int .i64 0, .int .i64 0] _)
      have G10 := Lib.hid (by rw [hn10]; exact H.out.1.size : w4.heap.size ≤ n10)
      have F10_0 := Lib.hid (by rw [hn10]; exact (Array.getElem?_eq_some_iff.1 (heldC_at H.out (List.Mem.head _))).1 : w.heap.size < n10)
      have F10_1 := Lib.hid (by rw [hn10]; exact (Array.getElem?_eq_some_iff.1 (heldC_at H.out (List.Mem.tail _ (List.Mem.head _)))).1 : (w.heap.size + 1) < n10)
      have F10_2 := Lib.hid (by rw [hn10]; exact (Array.getElem?_eq_some_iff.1 (heldC_at H.out (List.Mem.tail _ (List.Mem.tail _ (List.Mem.head _))))).1 : (w.heap.size + 1 + 1) < n10)
      have H := Lib.hid (heldC_call H.out (below1 _ (.cells #[.int .i64 0, .slice none 0 0, .slice none 0 0, .slice none 0 0, .slice none 0 0, .slice none 0 0, .int .i64 0, .int .i64 0] 31)))
      have NE10 := Lib.hid hn10
      clear hn10
      refine run_call (args := [.agg #[.int .i64 p0k, .slice p0a1 p0n1 p0m1, .slice p0a2 p0n2 p0m2, .slice p0a3 p0n3 p0m3, .slice p0a4 p0n4 p0m4, .slice p0a5 p0n5 p0m5, .int .i64 p0c, .int .i64 p0e]]) (show opAt (opsOf Tryd.f6 11) 1 = some (some 37, .call { callee := .value (.func 9), args := [(.tmp 36)].toArray, argTypes := [26].toArray }, none) from by kernel_rfl) (by kernel_rfl) (by kernel_rfl) (by kernel_rfl) (by kernel_rfl) ?_
      refine (TO0.out _ (below_then B4.out H.out.1)).mono ?_
      rintro en rw1 ⟨yt0, rfl, ho, hb⟩
      refine ⟨_, rfl, heldC_call H.out hb, ?_⟩
      have H := Lib.hid (heldC_call H.out hb)
      have N10 := Lib.hid (N10.out.keep hb)
      have A0 := Lib.hid (ResV.vatH ho)
      clear ho hb
      refine run_call (args := [.agg #[.int .i64 p1k, .slice p1a1 p1n1 p1m1, .slice p1a2 p1n2 p1m2, .slice p1a3 p1n3 p1m3, .slice p1a4 p1n4 p1m4, .slice p1a5 p1n5 p1m5, .int .i64 p1c, .int .i64 p1e]]) (show opAt (opsOf Tryd.f6 11) 3 = some (some 39, .call { callee := .value (.func 9), args := [(.tmp 38)].toArray, argTypes := [26].toArray }, none) from by kernel_rfl) (by kernel_rfl) (by kernel_rfl) (by kernel_rfl) (by kernel_rfl) ?_
      refine (TO1.out _ (below_then B4.out H.out.1)).mono ?_
      rintro en rw2 ⟨yt1, rfl, ho, hb⟩
      refine ⟨_, rfl, heldC_call H.out hb, ?_⟩
      have H := Lib.hid (heldC_call H.out hb)
      have N10 := Lib.hid (N10.out.keep hb)
      have A0 := Lib.hid (A0.out.keep hb)
      have A1 := Lib.hid (ResV.vatH ho)
      clear ho hb
      refine run_call (args := [.agg #[.int .i64 p2k, .slice p2a1 p2n1 p2m1, .slice p2a2 p2n2 p2m2, .slice p2a3 p2n3 p2m3, .slice p2a4 p2n4 p2m4, .slice p2a5 p2n5 p2m5, .int .i64 p2c, .int .i64 p2e]]) (show opAt (opsOf Tryd.f6 11) 5 = some (some 41, .call { callee := .value (.func 9), args := [(.tmp 40)].toArray, argTypes := [26].toArray }, none) from by kernel_rfl) (by kernel_rfl) (by kernel_rfl) (by kernel_rfl) (by kernel_rfl) ?_
      refine (TO2.out _ (below_then B4.out H.out.1)).mono ?_
      rintro en rw3 ⟨yt2, rfl, ho, hb⟩
      refine ⟨_, rfl, heldC_call H.out hb, ?_⟩
      have H := Lib.hid (heldC_call H.out hb)
      have N10 := Lib.hid (N10.out.keep hb)
      have A0 := Lib.hid (A0.out.keep hb)
      have A1 := Lib.hid (A1.out.keep hb)
      have A2 := Lib.hid (ResV.vatH ho)
      clear ho hb
      refine run_call (args := [yt0, yt1, yt2]) (show opAt (opsOf Tryd.f6 11) 6 = some (some 42, .call { callee := .value (.func 26), args := [(.tmp 37), (.tmp 39), (.tmp 41)].toArray, argTypes := [31, 31, 31].toArray }, none) from by kernel_rfl) (by kernel_rfl) (by kernel_rfl) (by kernel_rfl) (by kernel_rfl) ?_
      refine (SP.out _ yt0 yt1 yt2 A0.out.out A1.out.out A2.out.out (below_then B4.out H.out.1)).mono ?_
      rintro en rw4 ⟨yu, rfl, ho, hb⟩
      refine ⟨_, rfl, heldC_call H.out hb, ?_⟩
      obtain ⟨yuk, yua1, yun1, yum1, yua2, yun2, yum2, yua3, yun3, yum3, yua4, yun4, yum4, yua5, yun5, yum5, yuc, yue, rfl⟩ := ho.agg
      (try have UB := Lib.hid (Array.getElem?_eq_some_iff.1 N10.out.out).1)
      have LU := Lib.hid H.out.1.size
      have H := Lib.hid (heldC_call H.out hb)
      have N10 := Lib.hid (N10.out.keep hb)
      have A0 := Lib.hid (A0.out.keep hb)
      have A1 := Lib.hid (A1.out.keep hb)
      have A2 := Lib.hid (A2.out.keep hb)
      have OU := Lib.hid (⟨ho, Nat.le_refl _⟩ : OwnH 1 V _ _ _ _)
      clear ho hb
      refine run_mov (v := .tuple #[.agg #[.int .i64 yuk, .slice yua1 yun1 yum1, .slice yua2 yun2 yum2, .slice yua3 yun3 yum3, .slice yua4 yun4 yum4, .slice yua5 yun5 yum5, .int .i64 yuc, .int .i64 yue], .string sv]) (show opAt (opsOf Tryd.f6 11) 7 = some (some 35, .move (.tmp 42), none) from by kernel_rfl) (by kernel_rfl) (by kernel_rfl) (by kernel_rfl) ?_
      refine run_extract (vs := #[.agg #[.int .i64 yuk, .slice yua1 yun1 yum1, .slice yua2 yun2 yum2, .slice yua3 yun3 yum3, .slice yua4 yun4 yum4, .slice yua5 yun5 yum5, .int .i64 yuc, .int .i64 yue], .string sv]) (v := .agg #[.int .i64 yuk, .slice yua1 yun1 yum1, .slice yua2 yun2 yum2, .slice yua3 yun3 yum3, .slice yua4 yun4 yum4, .slice yua5 yun5 yum5, .int .i64 yuc, .int .i64 yue]) (show opAt (opsOf Tryd.f6 11) 8 = some (some 43, .extract (.tmp 35) 0, none) from by kernel_rfl) (by kernel_rfl) (by kernel_rfl) (by kernel_rfl) (by rfl) ?_
      refine run_extract (vs := #[.agg #[.int .i64 yuk, .slice yua1 yun1 yum1, .slice yua2 yun2 yum2, .slice yua3 yun3 yum3, .slice yua4 yun4 yum4, .slice yua5 yun5 yum5, .int .i64 yuc, .int .i64 yue], .string sv]) (v := .string sv) (show opAt (opsOf Tryd.f6 11) 9 = some (some 44, .extract (.tmp 35) 1, none) from by kernel_rfl) (by kernel_rfl) (by kernel_rfl) (by kernel_rfl) (by rfl) ?_
      refine run_store (w' := World.setRow _ n10 #[.int .i64 yuk, .slice yua1 yun1 yum1, .slice yua2 yun2 yum2, .slice yua3 yun3 yum3, .slice yua4 yun4 yum4, .slice yua5 yun5 yum5, .int .i64 yuc, .int .i64 yue]) (show opAt (opsOf Tryd.f6 11) 11 = some (none, .store 31 (.tmp 8) (.tmp 43), none) from by kernel_rfl) (by kernel_rfl) (by kernel_rfl) (by kernel_rfl) (store_vec8 N10.out.out (by simp [Value.oneCell'])) (⟨below_row H.out.1 G10.out _, fun q hq => row_old (H.out.2 q hq) (by have := F10_0.out; have := F10_1.out; have := F10_2.out; simp only [List.mem_cons, List.not_mem_nil, or_false] at hq; rcases hq with rfl | rfl | rfl <;> (simp only; omega))⟩) ?_
      refine run_asg (v := .string sv) (show opAt (opsOf Tryd.f6 11) 12 = some (some 9, .assign (.tmp 44), none) from by kernel_rfl) (by kernel_rfl) (by kernel_rfl) (by kernel_rfl) ?_
      refine run_done ?_
      simp only [putAll, Act.put, List.setIfInBounds_toArray, List.set_cons_zero, List.set_cons_succ]
      go_wp2_with fail
      go_meet
      exact ⟨_, _, rfl, rfl, ⟨row_set N10.out.out, (OU.out.own.rowO (by first | (left; have := UB.out; omega) | (right; have := NE10.out; omega))).wide LU.out (Nat.le_trans OU.out.hh (row_size _ _ _)), below_row H.out.1 G10.out _, G10.out⟩⟩
  obtain ⟨w5, rfl⟩ : ∃ u : World, u = wc := ⟨_, rfl⟩
  obtain ⟨gu, C, rfl, rfl, hm⟩ := hcut
  obtain ⟨uk, ua1, un1, um1, ua2, un2, um2, ua3, un3, um3, ua4, un4, um4, ua5, un5, um5, uc, ue, rfl⟩ := hm.cells
  clear H
  have b := hm.below
  have Z5 := Lib.hid b.size
  have B5 := Lib.hid (below_then B4.out b)
  have Kp05 := Lib.hid (blk_below b Kp04.out)
  clear Kp04
  have Kp15 := Lib.hid (blk_below b Kp14.out)
  clear Kp14
  have Kp25 := Lib.hid (blk_below b Kp24.out)
  clear Kp24
  clear b
  have ZSu := Lib.hid (Array.getElem?_eq_some_iff.1 hm.blk).1
  have Ku5 := Lib.hid (hm.blk)
  have Ou5 := Lib.hid (hm.own)
  have Ouh5 := Lib.hid ((Nat.le_refl _) : w5.heap.size ≤ w5.heap.size)
  clear hm
  obtain ⟨p0k0, p0k1, p0k2, p0k3, p0k4, p0k5, p0k6, p0k7⟩ := vec8 Kp05.out
  go_wp2_with fail
  with_reducible refine (TO0.out _ B5.out).mono ?_
  rintro e w6 ⟨y, rfl, ho, b⟩
  obtain ⟨x0k, x0a1, x0n1, x0m1, x0a2, x0n2, x0m2, x0a3, x0n3, x0m3, x0a4, x0n4, x0m4, x0a5, x0n5, x0m5, x0c, x0e, rfl⟩ := ho.agg
  try clear hzp0
  clear p0k0 p0k1 p0k2 p0k3 p0k4 p0k5 p0k6 p0k7
  have Z6 := Lib.hid b.size
  have B6 := Lib.hid (below_then B5.out b)
  have Kp06 := Lib.hid (blk_below b Kp05.out)
  clear Kp05
  have Kp16 := Lib.hid (blk_below b Kp15.out)
  clear Kp15
  have Kp26 := Lib.hid (blk_below b Kp25.out)
  clear Kp25
  have Ku6 := Lib.hid (blk_below b Ku5.out)
  clear Ku5
  have Ou6 := Lib.hid (Ou5.out.below b Ouh5.out)
  have Ouh6 := Lib.hid (Nat.le_trans Ouh5.out b.size)
  clear Ou5 Ouh5
  clear b
  have Ox06 := Lib.hid (ho)
  have Ox0h6 := Lib.hid ((Nat.le_refl _) : w6.heap.size ≤ w6.heap.size)
  clear ho
  obtain ⟨p1k0, p1k1, p1k2, p1k3, p1k4, p1k5, p1k6, p1k7⟩ := vec8 Kp16.out
  have hzp1 := (Array.getElem?_eq_some_iff.1 Kp16.out).1
  go_wp2_with fail
  obtain ⟨w7, hW⟩ : ∃ W, w6.alloc (.cells #[.int .i64 x0k, .slice x0a1 x0n1 x0m1, .slice x0a2 x0n2 x0m2, .slice x0a3 x0n3 x0m3, .slice x0a4 x0n4 x0m4, .slice x0a5 x0n5 x0m5, .int .i64 x0c, .int .i64 x0e] 31) = W := ⟨_, rfl⟩
  have b : Below w6.heap.size w6 w7 := hW ▸ below1 w6 _
  have kb : w7.heap[w6.heap.size]? = some (.cells #[.int .i64 x0k, .slice x0a1 x0n1 x0m1, .slice x0a2 x0n2 x0m2, .slice x0a3 x0n3 x0m3, .slice x0a4 x0n4 x0m4, .slice x0a5 x0n5 x0m5, .int .i64 x0c, .int .i64 x0e] 31 (0, 0)) := hW ▸ blk_new w6 _ rfl
  rw [hW]
  clear hW
  have Z7 := Lib.hid b.size
  have B7 := Lib.hid (below_then B6.out b)
  have Kp07 := Lib.hid (blk_below b Kp06.out)
  clear Kp06
  have Kp17 := Lib.hid (blk_below b Kp16.out)
  clear Kp16
  have Kp27 := Lib.hid (blk_below b Kp26.out)
  clear Kp26
  have Ku7 := Lib.hid (blk_below b Ku6.out)
  clear Ku6
  have Ou7 := Lib.hid (Ou6.out.below b Ouh6.out)
  have Ouh7 := Lib.hid (Nat.le_trans Ouh6.out b.size)
  clear Ou6 Ouh6
  have Ox07 := Lib.hid (Ox06.out.below b Ox0h6.out)
  have Ox0h7 := Lib.hid (Nat.le_trans Ox0h6.out b.size)
  clear Ox06 Ox0h6
  clear b
  have ZS7 := Lib.hid (Array.getElem?_eq_some_iff.1 kb).1
  have Kx07 := Lib.hid (kb)
  clear kb
  with_reducible refine (TO1.out _ B7.out).mono ?_
  rintro e w8 ⟨y, rfl, ho, b⟩
  obtain ⟨x1k, x1a1, x1n1, x1m1, x1a2, x1n2, x1m2, x1a3, x1n3, x1m3, x1a4, x1n4, x1m4, x1a5, x1n5, x1m5, x1c, x1e, rfl⟩ := ho.agg
  try clear hzp1
  clear p1k0 p1k1 p1k2 p1k3 p1k4 p1k5 p1k6 p1k7
  have Z8 := Lib.hid b.size
  have B8 := Lib.hid (below_then B7.out b)
  have Kp08 := Lib.hid (blk_below b Kp07.out)
  clear Kp07
  have Kp18 := Lib.hid (blk_below b Kp17.out)
  clear Kp17
  have Kp28 := Lib.hid (blk_below b Kp27.out)
  clear Kp27
  have Ku8 := Lib.hid (blk_below b Ku7.out)
  clear Ku7
  have Ou8 := Lib.hid (Ou7.out.below b Ouh7.out)
  have Ouh8 := Lib.hid (Nat.le_trans Ouh7.out b.size)
  clear Ou7 Ouh7
  have Ox08 := Lib.hid (Ox07.out.below b Ox0h7.out)
  have Ox0h8 := Lib.hid (Nat.le_trans Ox0h7.out b.size)
  clear Ox07 Ox0h7
  have Kx08 := Lib.hid (blk_below b Kx07.out)
  clear Kx07
  clear b
  have Ox18 := Lib.hid (ho)
  have Ox1h8 := Lib.hid ((Nat.le_refl _) : w8.heap.size ≤ w8.heap.size)
  clear ho
  obtain ⟨p2k0, p2k1, p2k2, p2k3, p2k4, p2k5, p2k6, p2k7⟩ := vec8 Kp28.out
  have hzp2 := (Array.getElem?_eq_some_iff.1 Kp28.out).1
  go_wp2_with fail
  obtain ⟨w9, hW⟩ : ∃ W, w8.alloc (.cells #[.int .i64 x1k, .slice x1a1 x1n1 x1m1, .slice x1a2 x1n2 x1m2, .slice x1a3 x1n3 x1m3, .slice x1a4 x1n4 x1m4, .slice x1a5 x1n5 x1m5, .int .i64 x1c, .int .i64 x1e] 31) = W := ⟨_, rfl⟩
  have b : Below w8.heap.size w8 w9 := hW ▸ below1 w8 _
  have kb : w9.heap[w8.heap.size]? = some (.cells #[.int .i64 x1k, .slice x1a1 x1n1 x1m1, .slice x1a2 x1n2 x1m2, .slice x1a3 x1n3 x1m3, .slice x1a4 x1n4 x1m4, .slice x1a5 x1n5 x1m5, .int .i64 x1c, .int .i64 x1e] 31 (0, 0)) := hW ▸ blk_new w8 _ rfl
  rw [hW]
  clear hW
  have Z9 := Lib.hid b.size
  have B9 := Lib.hid (below_then B8.out b)
  have Kp09 := Lib.hid (blk_below b Kp08.out)
  clear Kp08
  have Kp19 := Lib.hid (blk_below b Kp18.out)
  clear Kp18
  have Kp29 := Lib.hid (blk_below b Kp28.out)
  clear Kp28
  have Ku9 := Lib.hid (blk_below b Ku8.out)
  clear Ku8
  have Ou9 := Lib.hid (Ou8.out.below b Ouh8.out)
  have Ouh9 := Lib.hid (Nat.le_trans Ouh8.out b.size)
  clear Ou8 Ouh8
  have Ox09 := Lib.hid (Ox08.out.below b Ox0h8.out)
  have Ox0h9 := Lib.hid (Nat.le_trans Ox0h8.out b.size)
  clear Ox08 Ox0h8
  have Kx09 := Lib.hid (blk_below b Kx08.out)
  clear Kx08
  have Ox19 := Lib.hid (Ox18.out.below b Ox1h8.out)
  have Ox1h9 := Lib.hid (Nat.le_trans Ox1h8.out b.size)
  clear Ox18 Ox1h8
  clear b
  have ZS9 := Lib.hid (Array.getElem?_eq_some_iff.1 kb).1
  have Kx19 := Lib.hid (kb)
  clear kb
  with_reducible refine (TO2.out _ B9.out).mono ?_
  rintro e w10 ⟨y, rfl, ho, b⟩
  obtain ⟨x2k, x2a1, x2n1, x2m1, x2a2, x2n2, x2m2, x2a3, x2n3, x2m3, x2a4, x2n4, x2m4, x2a5, x2n5, x2m5, x2c, x2e, rfl⟩ := ho.agg
  try clear hzp2
  clear p2k0 p2k1 p2k2 p2k3 p2k4 p2k5 p2k6 p2k7
  have Z10 := Lib.hid b.size
  have B10 := Lib.hid (below_then B9.out b)
  have Kp010 := Lib.hid (blk_below b Kp09.out)
  clear Kp09
  have Kp110 := Lib.hid (blk_below b Kp19.out)
  clear Kp19
  have Kp210 := Lib.hid (blk_below b Kp29.out)
  clear Kp29
  have Ku10 := Lib.hid (blk_below b Ku9.out)
  clear Ku9
  have Ou10 := Lib.hid (Ou9.out.below b Ouh9.out)
  have Ouh10 := Lib.hid (Nat.le_trans Ouh9.out b.size)
  clear Ou9 Ouh9
  have Ox010 := Lib.hid (Ox09.out.below b Ox0h9.out)
  have Ox0h10 := Lib.hid (Nat.le_trans Ox0h9.out b.size)
  clear Ox09 Ox0h9
  have Kx010 := Lib.hid (blk_below b Kx09.out)
  clear Kx09
  have Ox110 := Lib.hid (Ox19.out.below b Ox1h9.out)
  have Ox1h10 := Lib.hid (Nat.le_trans Ox1h9.out b.size)
  clear Ox19 Ox1h9
  have Kx110 := Lib.hid (blk_below b Kx19.out)
  clear Kx19
  clear b
  have Ox210 := Lib.hid (ho)
  have Ox2h10 := Lib.hid ((Nat.le_refl _) : w10.heap.size ≤ w10.heap.size)
  clear ho
  obtain ⟨x0k0, x0k1, x0k2, x0k3, x0k4, x0k5, x0k6, x0k7⟩ := vec8 Kx010.out
  have hzx0 := (Array.getElem?_eq_some_iff.1 Kx010.out).1
  obtain ⟨x1k0, x1k1, x1k2, x1k3, x1k4, x1k5, x1k6, x1k7⟩ := vec8 Kx110.out
  have hzx1 := (Array.getElem?_eq_some_iff.1 Kx110.out).1
  go_wp2_with fail
  obtain ⟨w11, hW⟩ : ∃ W, w10.alloc (.cells #[.int .i64 x2k, .slice x2a1 x2n1 x2m1, .slice x2a2 x2n2 x2m2, .slice x2a3 x2n3 x2m3, .slice x2a4 x2n4 x2m4, .slice x2a5 x2n5 x2m5, .int .i64 x2c, .int .i64 x2e] 31) = W := ⟨_, rfl⟩
  have b : Below w10.heap.size w10 w11 := hW ▸ below1 w10 _
  have kb : w11.heap[w10.heap.size]? = some (.cells #[.int .i64 x2k, .slice x2a1 x2n1 x2m1, .slice x2a2 x2n2 x2m2, .slice x2a3 x2n3 x2m3, .slice x2a4 x2n4 x2m4, .slice x2a5 x2n5 x2m5, .int .i64 x2c, .int .i64 x2e] 31 (0, 0)) := hW ▸ blk_new w10 _ rfl
  rw [hW]
  clear hW
  have Z11 := Lib.hid b.size
  have B11 := Lib.hid (below_then B10.out b)
  have Kp011 := Lib.hid (blk_below b Kp010.out)
  clear Kp010
  have Kp111 := Lib.hid (blk_below b Kp110.out)
  clear Kp110
  have Kp211 := Lib.hid (blk_below b Kp210.out)
  clear Kp210
  have Ku11 := Lib.hid (blk_below b Ku10.out)
  clear Ku10
  have Ou11 := Lib.hid (Ou10.out.below b Ouh10.out)
  have Ouh11 := Lib.hid (Nat.le_trans Ouh10.out b.size)
  clear Ou10 Ouh10
  have Ox011 := Lib.hid (Ox010.out.below b Ox0h10.out)
  have Ox0h11 := Lib.hid (Nat.le_trans Ox0h10.out b.size)
  clear Ox010 Ox0h10
  have Kx011 := Lib.hid (blk_below b Kx010.out)
  clear Kx010
  have Ox111 := Lib.hid (Ox110.out.below b Ox1h10.out)
  have Ox1h11 := Lib.hid (Nat.le_trans Ox1h10.out b.size)
  clear Ox110 Ox1h10
  have Kx111 := Lib.hid (blk_below b Kx110.out)
  clear Kx110
  have Ox211 := Lib.hid (Ox210.out.below b Ox2h10.out)
  have Ox2h11 := Lib.hid (Nat.le_trans Ox2h10.out b.size)
  clear Ox210 Ox2h10
  clear b
  have ZS11 := Lib.hid (Array.getElem?_eq_some_iff.1 kb).1
  have Kx211 := Lib.hid (kb)
  clear kb
  with_reducible refine (IM.out _ _ _ _ (Ox011.out.vat Ox0h11.out) (Ox111.out.vat Ox1h11.out) (Ox211.out.vat Ox2h11.out) B11.out).mono ?_
  rintro e w12 ⟨y, rfl, ho, b⟩
  obtain ⟨gk, ga1, gn1, gm1, ga2, gn2, gm2, ga3, gn3, gm3, ga4, gn4, gm4, ga5, gn5, gm5, gc, ge, rfl⟩ := ho.agg
  try clear hzx0
  clear x0k0 x0k1 x0k2 x0k3 x0k4 x0k5 x0k6 x0k7
  try clear hzx1
  clear x1k0 x1k1 x1k2 x1k3 x1k4 x1k5 x1k6 x1k7
  have Z12 := Lib.hid b.size
  have B12 := Lib.hid (below_then B11.out b)
  have Kp012 := Lib.hid (blk_below b Kp011.out)
  clear Kp011
  have Kp112 := Lib.hid (blk_below b Kp111.out)
  clear Kp111
  have Kp212 := Lib.hid (blk_below b Kp211.out)
  clear Kp211
  have Ku12 := Lib.hid (blk_below b Ku11.out)
  clear Ku11
  have Ou12 := Lib.hid (Ou11.out.below b Ouh11.out)
  have Ouh12 := Lib.hid (Nat.le_trans Ouh11.out b.size)
  clear Ou11 Ouh11
  have Ox012 := Lib.hid (Ox011.out.below b Ox0h11.out)
  have Ox0h12 := Lib.hid (Nat.le_trans Ox0h11.out b.size)
  clear Ox011 Ox0h11
  have Kx012 := Lib.hid (blk_below b Kx011.out)
  clear Kx011
  have Ox112 := Lib.hid (Ox111.out.below b Ox1h11.out)
  have Ox1h12 := Lib.hid (Nat.le_trans Ox1h11.out b.size)
  clear Ox111 Ox1h11
  have Kx112 := Lib.hid (blk_below b Kx111.out)
  clear Kx111
  have Ox212 := Lib.hid (Ox211.out.below b Ox2h11.out)
  have Ox2h12 := Lib.hid (Nat.le_trans Ox2h11.out b.size)
  clear Ox211 Ox2h11
  have Kx212 := Lib.hid (blk_below b Kx211.out)
  clear Kx211
  clear b
  have Og12 := Lib.hid (ho)
  have Ogh12 := Lib.hid ((Nat.le_refl _) : w12.heap.size ≤ w12.heap.size)
  clear ho
  obtain ⟨uk0, uk1, uk2, uk3, uk4, uk5, uk6, uk7⟩ := vec8 Ku12.out
  have hzu := (Array.getElem?_eq_some_iff.1 Ku12.out).1
  go_wp2_with fail
  obtain ⟨w13, hW⟩ : ∃ W, w12.alloc (.cells #[.int .i64 gk, .slice ga1 gn1 gm1, .slice ga2 gn2 gm2, .slice ga3 gn3 gm3, .slice ga4 gn4 gm4, .slice ga5 gn5 gm5, .int .i64 gc, .int .i64 ge] 31) = W := ⟨_, rfl⟩
  have b : Below w12.heap.size w12 w13 := hW ▸ below1 w12 _
  have kb : w13.heap[w12.heap.size]? = some (.cells #[.int .i64 gk, .slice ga1 gn1 gm1, .slice ga2 gn2 gm2, .slice ga3 gn3 gm3, .slice ga4 gn4 gm4, .slice ga5 gn5 gm5, .int .i64 gc, .int .i64 ge] 31 (0, 0)) := hW ▸ blk_new w12 _ rfl
  rw [hW]
  clear hW
  have Z13 := Lib.hid b.size
  have B13 := Lib.hid (below_then B12.out b)
  have Kp013 := Lib.hid (blk_below b Kp012.out)
  clear Kp012
  have Kp113 := Lib.hid (blk_below b Kp112.out)
  clear Kp112
  have Kp213 := Lib.hid (blk_below b Kp212.out)
  clear Kp212
  have Ku13 := Lib.hid (blk_below b Ku12.out)
  clear Ku12
  have Ou13 := Lib.hid (Ou12.out.below b Ouh12.out)
  have Ouh13 := Lib.hid (Nat.le_trans Ouh12.out b.size)
  clear Ou12 Ouh12
  have Ox013 := Lib.hid (Ox012.out.below b Ox0h12.out)
  have Ox0h13 := Lib.hid (Nat.le_trans Ox0h12.out b.size)
  clear Ox012 Ox0h12
  have Kx013 := Lib.hid (blk_below b Kx012.out)
  clear Kx012
  have Ox113 := Lib.hid (Ox112.out.below b Ox1h12.out)
  have Ox1h13 := Lib.hid (Nat.le_trans Ox1h12.out b.size)
  clear Ox112 Ox1h12
  have Kx113 := Lib.hid (blk_below b Kx112.out)
  clear Kx112
  have Ox213 := Lib.hid (Ox212.out.below b Ox2h12.out)
  have Ox2h13 := Lib.hid (Nat.le_trans Ox2h12.out b.size)
  clear Ox212 Ox2h12
  have Kx213 := Lib.hid (blk_below b Kx212.out)
  clear Kx212
  have Og13 := Lib.hid (Og12.out.below b Ogh12.out)
  have Ogh13 := Lib.hid (Nat.le_trans Ogh12.out b.size)
  clear Og12 Ogh12
  clear b
  have ZS13 := Lib.hid (Array.getElem?_eq_some_iff.1 kb).1
  have Kg13 := Lib.hid (kb)
  clear kb
  with_reducible refine (EQ.out _ _ _ (Og13.out.vat Ogh13.out) (Ou13.out.vat Ouh13.out)).mono ?_
  rintro e w14 ⟨rfl, b⟩
  try clear hzu
  clear uk0 uk1 uk2 uk3 uk4 uk5 uk6 uk7
  have Z14 := Lib.hid b.size
  have B14 := Lib.hid (below_then B13.out b)
  have Kp014 := Lib.hid (blk_below b Kp013.out)
  clear Kp013
  have Kp114 := Lib.hid (blk_below b Kp113.out)
  clear Kp113
  have Kp214 := Lib.hid (blk_below b Kp213.out)
  clear Kp213
  have Ku14 := Lib.hid (blk_below b Ku13.out)
  clear Ku13
  have Ou14 := Lib.hid (Ou13.out.below b Ouh13.out)
  have Ouh14 := Lib.hid (Nat.le_trans Ouh13.out b.size)
  clear Ou13 Ouh13
  have Ox014 := Lib.hid (Ox013.out.below b Ox0h13.out)
  have Ox0h14 := Lib.hid (Nat.le_trans Ox0h13.out b.size)
  clear Ox013 Ox0h13
  have Kx014 := Lib.hid (blk_below b Kx013.out)
  clear Kx013
  have Ox114 := Lib.hid (Ox113.out.below b Ox1h13.out)
  have Ox1h14 := Lib.hid (Nat.le_trans Ox1h13.out b.size)
  clear Ox113 Ox1h13
  have Kx114 := Lib.hid (blk_below b Kx113.out)
  clear Kx113
  have Ox214 := Lib.hid (Ox213.out.below b Ox2h13.out)
  have Ox2h14 := Lib.hid (Nat.le_trans Ox2h13.out b.size)
  clear Ox213 Ox2h13
  have Kx214 := Lib.hid (blk_below b Kx213.out)
  clear Kx213
  have Og14 := Lib.hid (Og13.out.below b Ogh13.out)
  have Ogh14 := Lib.hid (Nat.le_trans Ogh13.out b.size)
  clear Og13 Ogh13
  have Kg14 := Lib.hid (blk_below b Kg13.out)
  clear Kg13
  clear b
  go_wp2
  have H := Lib.hid (heldC_two (Below.refl _ _) Kx014.out Kp014.out)
  refine run_region (ops := (opsOf Tryd.f6 18)) (S := fun w' => HeldC w14 w' ([(w6.heap.size, 31, #[.int .i64 x0k, .slice x0a1 x0n1 x0m1, .slice x0a2 x0n2 x0m2, .slice x0a3 x0n3 x0m3, .slice x0a4 x0n4 x0m4, .slice x0a5 x0n5 x0m5, .int .i64 x0c, .int .i64 x0e]), (w.heap.size, 26, #[.int .i64 p0k, .slice p0a1 p0n1 p0m1, .slice p0a2 p0n2 p0m2, .slice p0a3 p0n3 p0m3, .slice p0a4 p0n4 p0m4, .slice p0a5 p0n5 p0m5, .int .i64 p0c, .int .i64 p0e])])) [(0, true), (1, true), (2, false), (3, false), (4, true)] (by kernel_rfl) (by kernel_rfl) (by kernel_rfl) (by kernel_rfl) (by kernel_rfl) (fun _ _ _ _ _ h => h) (heldC_drew H.out) ?_
  have H := Lib.hid (heldC_drew H.out)
  refine runC_vec (b := w6.heap.size) (show opAt (opsOf Tryd.f6 18) 0 = some (some 67, .load 31 (.tmp 10), none) from by kernel_rfl) (by kernel_rfl) (by kernel_rfl) (by kernel_rfl) (List.Mem.head _) ?_
  refine runC_lvec (b := w.heap.size) (show opAt (opsOf Tryd.f6 18) 1 = some (some 68, .load 26 (.tmp 3), none) from by kernel_rfl) (by kernel_rfl) (by kernel_rfl) (by kernel_rfl) (List.Mem.tail _ (List.Mem.head _)) ?_
  refine run_call (args := [.agg #[.int .i64 p0k, .slice p0a1 p0n1 p0m1, .slice p0a2 p0n2 p0m2, .slice p0a3 p0n3 p0m3, .slice p0a4 p0n4 p0m4, .slice p0a5 p0n5 p0m5, .int .i64 p0c, .int .i64 p0e]]) (show opAt (opsOf Tryd.f6 18) 2 = some (some 69, .call { callee := .value (.func 9), args := [(.tmp 68)].toArray, argTypes := [26].toArray }, none) from by kernel_rfl) (by kernel_rfl) (by kernel_rfl) (by kernel_rfl) (by kernel_rfl) ?_
  refine (TO0.out _ (below_then B14.out H.out.1)).mono ?_
  rintro en r0w1 ⟨yq, rfl, ho, hb⟩
  refine ⟨_, rfl, heldC_call H.out hb, ?_⟩
  have Oyq := Lib.hid ho
  have H := Lib.hid (heldC_call H.out hb)
  clear ho hb
  refine run_call (args := [.agg #[.int .i64 x0k, .slice x0a1 x0n1 x0m1, .slice x0a2 x0n2 x0m2, .slice x0a3 x0n3 x0m3, .slice x0a4 x0n4 x0m4, .slice x0a5 x0n5 x0m5, .int .i64 x0c, .int .i64 x0e], yq]) (show opAt (opsOf Tryd.f6 18) 3 = some (some 70, .call { callee := .value (.func 11), args := [(.tmp 67), (.tmp 69)].toArray, argTypes := [31, 31].toArray }, none) from by kernel_rfl) (by kernel_rfl) (by kernel_rfl) (by kernel_rfl) (by kernel_rfl) ?_
  refine (QX0.out _ _ _ ((Ox014.out.below H.out.1 Ox0h14.out).vat (Nat.le_trans Ox0h14.out H.out.1.size)) (Oyq.out.vat (Nat.le_refl _))).mono ?_
  rintro en r0w2 ⟨rfl, hb⟩
  refine ⟨_, rfl, heldC_call H.out hb, ?_⟩
  have H := Lib.hid (heldC_call H.out hb)
  clear hb
  refine run_not (b := true) (show opAt (opsOf Tryd.f6 18) 4 = some (some 71, .unOp .not 4 (.tmp 70), none) from by kernel_rfl) (by kernel_rfl) (by kernel_rfl) (by kernel_rfl) ?_
  refine run_done ?_
  simp only [putAll, Act.put, List.setIfInBounds_toArray, List.set_cons_zero, List.set_cons_succ]
  have b := H.out.1
  clear H Oyq
  have Z15 := Lib.hid b.size
  have B15 := Lib.hid (below_then B14.out b)
  have Kp015 := Lib.hid (blk_below b Kp014.out)
  clear Kp014
  have Kp115 := Lib.hid (blk_below b Kp114.out)
  clear Kp114
  have Kp215 := Lib.hid (blk_below b Kp214.out)
  clear Kp214
  have Ku15 := Lib.hid (blk_below b Ku14.out)
  clear Ku14
  have Ou15 := Lib.hid (Ou14.out.below b Ouh14.out)
  have Ouh15 := Lib.hid (Nat.le_trans Ouh14.out b.size)
  clear Ou14 Ouh14
  have Ox015 := Lib.hid (Ox014.out.below b Ox0h14.out)
  have Ox0h15 := Lib.hid (Nat.le_trans Ox0h14.out b.size)
  clear Ox014 Ox0h14
  have Kx015 := Lib.hid (blk_below b Kx014.out)
  clear Kx014
  have Ox115 := Lib.hid (Ox114.out.below b Ox1h14.out)
  have Ox1h15 := Lib.hid (Nat.le_trans Ox1h14.out b.size)
  clear Ox114 Ox1h14
  have Kx115 := Lib.hid (blk_below b Kx114.out)
  clear Kx114
  have Ox215 := Lib.hid (Ox214.out.below b Ox2h14.out)
  have Ox2h15 := Lib.hid (Nat.le_trans Ox2h14.out b.size)
  clear Ox214 Ox2h14
  have Kx215 := Lib.hid (blk_below b Kx214.out)
  clear Kx214
  have Og15 := Lib.hid (Og14.out.below b Ogh14.out)
  have Ogh15 := Lib.hid (Nat.le_trans Ogh14.out b.size)
  clear Og14 Ogh14
  have Kg15 := Lib.hid (blk_below b Kg14.out)
  clear Kg14
  clear b
  go_wp2
  have H := Lib.hid (heldC_two (Below.refl _ _) Kx115.out Kp115.out)
  refine run_region (ops := (opsOf Tryd.f6 20)) (S := fun w' => HeldC r0w2 w' ([(w8.heap.size, 31, #[.int .i64 x1k, .slice x1a1 x1n1 x1m1, .slice x1a2 x1n2 x1m2, .slice x1a3 x1n3 x1m3, .slice x1a4 x1n4 x1m4, .slice x1a5 x1n5 x1m5, .int .i64 x1c, .int .i64 x1e]), ((w.heap.size + 1), 26, #[.int .i64 p1k, .slice p1a1 p1n1 p1m1, .slice p1a2 p1n2 p1m2, .slice p1a3 p1n3 p1m3, .slice p1a4 p1n4 p1m4, .slice p1a5 p1n5 p1m5, .int .i64 p1c, .int .i64 p1e])])) [(0, true), (1, true), (2, false), (3, false), (4, true)] (by kernel_rfl) (by kernel_rfl) (by kernel_rfl) (by kernel_rfl) (by kernel_rfl) (fun _ _ _ _ _ h => h) (heldC_drew H.out) ?_
  have H := Lib.hid (heldC_drew H.out)
  refine runC_vec (b := w8.heap.size) (show opAt (opsOf Tryd.f6 20) 0 = some (some 72, .load 31 (.tmp 11), none) from by kernel_rfl) (by kernel_rfl) (by kernel_rfl) (by kernel_rfl) (List.Mem.head _) ?_
  refine runC_lvec (b := (w.heap.size + 1)) (show opAt (opsOf Tryd.f6 20) 1 = some (some 73, .load 26 (.tmp 4), none) from by kernel_rfl) (by kernel_rfl) (by kernel_rfl) (by kernel_rfl) (List.Mem.tail _ (List.Mem.head _)) ?_
  refine run_call (args := [.agg #[.int .i64 p1k, .slice p1a1 p1n1 p1m1, .slice p1a2 p1n2 p1m2, .slice p1a3 p1n3 p1m3, .slice p1a4 p1n4 p1m4, .slice p1a5 p1n5 p1m5, .int .i64 p1c, .int .i64 p1e]]) (show opAt (opsOf Tryd.f6 20) 2 = some (some 74, .call { callee := .value (.func 9), args := [(.tmp 73)].toArray, argTypes := [26].toArray }, none) from by kernel_rfl) (by kernel_rfl) (by kernel_rfl) (by kernel_rfl) (by kernel_rfl) ?_
  refine (TO1.out _ (below_then B15.out H.out.1)).mono ?_
  rintro en r1w1 ⟨yq, rfl, ho, hb⟩
  refine ⟨_, rfl, heldC_call H.out hb, ?_⟩
  have Oyq := Lib.hid ho
  have H := Lib.hid (heldC_call H.out hb)
  clear ho hb
  refine run_call (args := [.agg #[.int .i64 x1k, .slice x1a1 x1n1 x1m1, .slice x1a2 x1n2 x1m2, .slice x1a3 x1n3 x1m3, .slice x1a4 x1n4 x1m4, .slice x1a5 x1n5 x1m5, .int .i64 x1c, .int .i64 x1e], yq]) (show opAt (opsOf Tryd.f6 20) 3 = some (some 75, .call { callee := .value (.func 11), args := [(.tmp 72), (.tmp 74)].toArray, argTypes := [31, 31].toArray }, none) from by kernel_rfl) (by kernel_rfl) (by kernel_rfl) (by kernel_rfl) (by kernel_rfl) ?_
  refine (QX1.out _ _ _ ((Ox115.out.below H.out.1 Ox1h15.out).vat (Nat.le_trans Ox1h15.out H.out.1.size)) (Oyq.out.vat (Nat.le_refl _))).mono ?_
  rintro en r1w2 ⟨rfl, hb⟩
  refine ⟨_, rfl, heldC_call H.out hb, ?_⟩
  have H := Lib.hid (heldC_call H.out hb)
  clear hb
  refine run_not (b := true) (show opAt (opsOf Tryd.f6 20) 4 = some (some 76, .unOp .not 4 (.tmp 75), none) from by kernel_rfl) (by kernel_rfl) (by kernel_rfl) (by kernel_rfl) ?_
  refine run_done ?_
  simp only [putAll, Act.put, List.setIfInBounds_toArray, List.set_cons_zero, List.set_cons_succ]
  have b := H.out.1
  clear H Oyq
  have Z16 := Lib.hid b.size
  have B16 := Lib.hid (below_then B15.out b)
  have Kp016 := Lib.hid (blk_below b Kp015.out)
  clear Kp015
  have Kp116 := Lib.hid (blk_below b Kp115.out)
  clear Kp115
  have Kp216 := Lib.hid (blk_below b Kp215.out)
  clear Kp215
  have Ku16 := Lib.hid (blk_below b Ku15.out)
  clear Ku15
  have Ou16 := Lib.hid (Ou15.out.below b Ouh15.out)
  have Ouh16 := Lib.hid (Nat.le_trans Ouh15.out b.size)
  clear Ou15 Ouh15
  have Ox016 := Lib.hid (Ox015.out.below b Ox0h15.out)
  have Ox0h16 := Lib.hid (Nat.le_trans Ox0h15.out b.size)
  clear Ox015 Ox0h15
  have Kx016 := Lib.hid (blk_below b Kx015.out)
  clear Kx015
  have Ox116 := Lib.hid (Ox115.out.below b Ox1h15.out)
  have Ox1h16 := Lib.hid (Nat.le_trans Ox1h15.out b.size)
  clear Ox115 Ox1h15
  have Kx116 := Lib.hid (blk_below b Kx115.out)
  clear Kx115
  have Ox216 := Lib.hid (Ox215.out.below b Ox2h15.out)
  have Ox2h16 := Lib.hid (Nat.le_trans Ox2h15.out b.size)
  clear Ox215 Ox2h15
  have Kx216 := Lib.hid (blk_below b Kx215.out)
  clear Kx215
  have Og16 := Lib.hid (Og15.out.below b Ogh15.out)
  have Ogh16 := Lib.hid (Nat.le_trans Ogh15.out b.size)
  clear Og15 Ogh15
  have Kg16 := Lib.hid (blk_below b Kg15.out)
  clear Kg15
  clear b
  go_wp2
  have H := Lib.hid (heldC_two (Below.refl _ _) Kx216.out Kp216.out)
  refine run_region (ops := (opsOf Tryd.f6 22)) (S := fun w' => HeldC r1w2 w' ([(w10.heap.size, 31, #[.int .i64 x2k, .slice x2a1 x2n1 x2m1, .slice x2a2 x2n2 x2m2, .slice x2a3 x2n3 x2m3, .slice x2a4 x2n4 x2m4, .slice x2a5 x2n5 x2m5, .int .i64 x2c, .int .i64 x2e]), ((w.heap.size + 1 + 1), 26, #[.int .i64 p2k, .slice p2a1 p2n1 p2m1, .slice p2a2 p2n2 p2m2, .slice p2a3 p2n3 p2m3, .slice p2a4 p2n4 p2m4, .slice p2a5 p2n5 p2m5, .int .i64 p2c, .int .i64 p2e])])) [(0, true), (1, true), (2, false), (3, false), (4, true)] (by kernel_rfl) (by kernel_rfl) (by kernel_rfl) (by kernel_rfl) (by kernel_rfl) (fun _ _ _ _ _ h => h) (heldC_drew H.out) ?_
  have H := Lib.hid (heldC_drew H.out)
  refine runC_vec (b := w10.heap.size) (show opAt (opsOf Tryd.f6 22) 0 = some (some 77, .load 31 (.tmp 12), none) from by kernel_rfl) (by kernel_rfl) (by kernel_rfl) (by kernel_rfl) (List.Mem.head _) ?_
  refine runC_lvec (b := (w.heap.size + 1 + 1)) (show opAt (opsOf Tryd.f6 22) 1 = some (some 78, .load 26 (.tmp 5), none) from by kernel_rfl) (by kernel_rfl) (by kernel_rfl) (by kernel_rfl) (List.Mem.tail _ (List.Mem.head _)) ?_
  refine run_call (args := [.agg #[.int .i64 p2k, .slice p2a1 p2n1 p2m1, .slice p2a2 p2n2 p2m2, .slice p2a3 p2n3 p2m3, .slice p2a4 p2n4 p2m4, .slice p2a5 p2n5 p2m5, .int .i64 p2c, .int .i64 p2e]]) (show opAt (opsOf Tryd.f6 22) 2 = some (some 79, .call { callee := .value (.func 9), args := [(.tmp 78)].toArray, argTypes := [26].toArray }, none) from by kernel_rfl) (by kernel_rfl) (by kernel_rfl) (by kernel_rfl) (by kernel_rfl) ?_
  refine (TO2.out _ (below_then B16.out H.out.1)).mono ?_
  rintro en r2w1 ⟨yq, rfl, ho, hb⟩
  refine ⟨_, rfl, heldC_call H.out hb, ?_⟩
  have Oyq := Lib.hid ho
  have H := Lib.hid (heldC_call H.out hb)
  clear ho hb
  refine run_call (args := [.agg #[.int .i64 x2k, .slice x2a1 x2n1 x2m1, .slice x2a2 x2n2 x2m2, .slice x2a3 x2n3 x2m3, .slice x2a4 x2n4 x2m4, .slice x2a5 x2n5 x2m5, .int .i64 x2c, .int .i64 x2e], yq]) (show opAt (opsOf Tryd.f6 22) 3 = some (some 80, .call { callee := .value (.func 11), args := [(.tmp 77), (.tmp 79)].toArray, argTypes := [31, 31].toArray }, none) from by kernel_rfl) (by kernel_rfl) (by kernel_rfl) (by kernel_rfl) (by kernel_rfl) ?_
  refine (QX2.out _ _ _ ((Ox216.out.below H.out.1 Ox2h16.out).vat (Nat.le_trans Ox2h16.out H.out.1.size)) (Oyq.out.vat (Nat.le_refl _))).mono ?_
  rintro en r2w2 ⟨rfl, hb⟩
  refine ⟨_, rfl, heldC_call H.out hb, ?_⟩
  have H := Lib.hid (heldC_call H.out hb)
  clear hb
  refine run_not (b := true) (show opAt (opsOf Tryd.f6 22) 4 = some (some 81, .unOp .not 4 (.tmp 80), none) from by kernel_rfl) (by kernel_rfl) (by kernel_rfl) (by kernel_rfl) ?_
  refine run_done ?_
  simp only [putAll, Act.put, List.setIfInBounds_toArray, List.set_cons_zero, List.set_cons_succ]
  have b := H.out.1
  clear H Oyq
  have Z17 := Lib.hid b.size
  have B17 := Lib.hid (below_then B16.out b)
  have Kp017 := Lib.hid (blk_below b Kp016.out)
  clear Kp016
  have Kp117 := Lib.hid (blk_below b Kp116.out)
  clear Kp116
  have Kp217 := Lib.hid (blk_below b Kp216.out)
  clear Kp216
  have Ku17 := Lib.hid (blk_below b Ku16.out)
  clear Ku16
  have Ou17 := Lib.hid (Ou16.out.below b Ouh16.out)
  have Ouh17 := Lib.hid (Nat.le_trans Ouh16.out b.size)
  clear Ou16 Ouh16
  have Ox017 := Lib.hid (Ox016.out.below b Ox0h16.out)
  have Ox0h17 := Lib.hid (Nat.le_trans Ox0h16.out b.size)
  clear Ox016 Ox0h16
  have Kx017 := Lib.hid (blk_below b Kx016.out)
  clear Kx016
  have Ox117 := Lib.hid (Ox116.out.below b Ox1h16.out)
  have Ox1h17 := Lib.hid (Nat.le_trans Ox1h16.out b.size)
  clear Ox116 Ox1h16
  have Kx117 := Lib.hid (blk_below b Kx116.out)
  clear Kx116
  have Ox217 := Lib.hid (Ox216.out.below b Ox2h16.out)
  have Ox2h17 := Lib.hid (Nat.le_trans Ox2h16.out b.size)
  clear Ox216 Ox2h16
  have Kx217 := Lib.hid (blk_below b Kx216.out)
  clear Kx216
  have Og17 := Lib.hid (Og16.out.below b Ogh16.out)
  have Ogh17 := Lib.hid (Nat.le_trans Ogh16.out b.size)
  clear Og16 Ogh16
  have Kg17 := Lib.hid (blk_below b Kg16.out)
  clear Kg16
  clear b
  obtain ⟨x0k0, x0k1, x0k2, x0k3, x0k4, x0k5, x0k6, x0k7⟩ := vec8 Kx017.out
  go_wp2_with fail
  with_reducible refine (MX0.out _ _ _ _ Ox017.out Ox0h17.out).mono ?_
  rintro e w15 ⟨rfl, t⟩
  try clear hzx0
  clear x0k0 x0k1 x0k2 x0k3 x0k4 x0k5 x0k6 x0k7
  have Z18 := Lib.hid t.size
  have B18 := Lib.hid (B17.out.trans (t.below (Nat.le_trans (Nat.le_trans (Nat.le_trans (Nat.le_trans Z1.out Z2.out) Z3.out) Z4.out) Z5.out) B17.out.size))
  have Kp018 := Lib.hid (t.blk (.inl (Nat.lt_of_lt_of_le ZSp0.out (Nat.le_trans (Nat.le_trans (Nat.le_trans Z2.out Z3.out) Z4.out) Z5.out))) Kp017.out)
  clear Kp017
  have Kp118 := Lib.hid (t.blk (.inl (Nat.lt_of_lt_of_le ZSp1.out (Nat.le_trans (Nat.le_trans (Nat.le_trans Z2.out Z3.out) Z4.out) Z5.out))) Kp117.out)
  clear Kp117
  have Kp218 := Lib.hid (t.blk (.inl (Nat.lt_of_lt_of_le ZSp2.out (Nat.le_trans (Nat.le_trans (Nat.le_trans Z2.out Z3.out) Z4.out) Z5.out))) Kp217.out)
  clear Kp217
  have Ku18 := Lib.hid (t.blk (.inl (Nat.lt_of_lt_of_le ZSu.out (Nat.le_refl _))) Ku17.out)
  clear Ku17
  have Ou18 := Lib.hid (Ou17.out.within t (.inl (Nat.le_refl _)) Ouh17.out)
  have Ouh18 := Lib.hid (Nat.le_trans Ouh17.out t.size)
  clear Ou17 Ouh17
  have Kx018 := Lib.hid (t.blk (.inr (Nat.le_refl _)) Kx017.out)
  clear Kx017
  have Ox118 := Lib.hid (Ox117.out.within t (.inr Z7.out) Ox1h17.out)
  have Ox1h18 := Lib.hid (Nat.le_trans Ox1h17.out t.size)
  clear Ox117 Ox1h17
  have Kx118 := Lib.hid (t.blk (.inr (Nat.le_trans Z7.out Z8.out)) Kx117.out)
  clear Kx117
  have Ox218 := Lib.hid (Ox217.out.within t (.inr (Nat.le_trans (Nat.le_trans Z7.out Z8.out) Z9.out)) Ox2h17.out)
  have Ox2h18 := Lib.hid (Nat.le_trans Ox2h17.out t.size)
  clear Ox217 Ox2h17
  have Kx218 := Lib.hid (t.blk (.inr (Nat.le_trans (Nat.le_trans (Nat.le_trans Z7.out Z8.out) Z9.out) Z10.out)) Kx217.out)
  clear Kx217
  have Og18 := Lib.hid (Og17.out.within t (.inr (Nat.le_trans (Nat.le_trans (Nat.le_trans (Nat.le_trans Z7.out Z8.out) Z9.out) Z10.out) Z11.out)) Ogh17.out)
  have Ogh18 := Lib.hid (Nat.le_trans Ogh17.out t.size)
  clear Og17 Ogh17
  have Kg18 := Lib.hid (t.blk (.inr (Nat.le_trans (Nat.le_trans (Nat.le_trans (Nat.le_trans (Nat.le_trans Z7.out Z8.out) Z9.out) Z10.out) Z11.out) Z12.out)) Kg17.out)
  clear Kg17
  clear Ox017 Ox0h17
  clear t
  clear Kx018
  obtain ⟨x1k0, x1k1, x1k2, x1k3, x1k4, x1k5, x1k6, x1k7⟩ := vec8 Kx118.out
  go_wp2_with fail
  with_reducible refine (MX1.out _ _ _ _ Ox118.out Ox1h18.out).mono ?_
  rintro e w16 ⟨rfl, t⟩
  try clear hzx1
  clear x1k0 x1k1 x1k2 x1k3 x1k4 x1k5 x1k6 x1k7
  have Z19 := Lib.hid t.size
  have B19 := Lib.hid (B18.out.trans (t.below (Nat.le_trans (Nat.le_trans (Nat.le_trans (Nat.le_trans (Nat.le_trans (Nat.le_trans Z1.out Z2.out) Z3.out) Z4.out) Z5.out) Z6.out) Z7.out) B18.out.size))
  have Kp019 := Lib.hid (t.blk (.inl (Nat.lt_of_lt_of_le ZSp0.out (Nat.le_trans (Nat.le_trans (Nat.le_trans (Nat.le_trans (Nat.le_trans Z2.out Z3.out) Z4.out) Z5.out) Z6.out) Z7.out))) Kp018.out)
  clear Kp018
  have Kp119 := Lib.hid (t.blk (.inl (Nat.lt_of_lt_of_le ZSp1.out (Nat.le_trans (Nat.le_trans (Nat.le_trans (Nat.le_trans (Nat.le_trans Z2.out Z3.out) Z4.out) Z5.out) Z6.out) Z7.out))) Kp118.out)
  clear Kp118
  have Kp219 := Lib.hid (t.blk (.inl (Nat.lt_of_lt_of_le ZSp2.out (Nat.le_trans (Nat.le_trans (Nat.le_trans (Nat.le_trans (Nat.le_trans Z2.out Z3.out) Z4.out) Z5.out) Z6.out) Z7.out))) Kp218.out)
  clear Kp218
  have Ku19 := Lib.hid (t.blk (.inl (Nat.lt_of_lt_of_le ZSu.out (Nat.le_trans Z6.out Z7.out))) Ku18.out)
  clear Ku18
  have Ou19 := Lib.hid (Ou18.out.within t (.inl (Nat.le_trans Z6.out Z7.out)) Ouh18.out)
  have Ouh19 := Lib.hid (Nat.le_trans Ouh18.out t.size)
  clear Ou18 Ouh18
  have Kx119 := Lib.hid (t.blk (.inr (Nat.le_refl _)) Kx118.out)
  clear Kx118
  have Ox219 := Lib.hid (Ox218.out.within t (.inr Z9.out) Ox2h18.out)
  have Ox2h19 := Lib.hid (Nat.le_trans Ox2h18.out t.size)
  clear Ox218 Ox2h18
  have Kx219 := Lib.hid (t.blk (.inr (Nat.le_trans Z9.out Z10.out)) Kx218.out)
  clear Kx218
  have Og19 := Lib.hid (Og18.out.within t (.inr (Nat.le_trans (Nat.le_trans Z9.out Z10.out) Z11.out)) Ogh18.out)
  have Ogh19 := Lib.hid (Nat.le_trans Ogh18.out t.size)
  clear Og18 Ogh18
  have Kg19 := Lib.hid (t.blk (.inr (Nat.le_trans (Nat.le_trans (Nat.le_trans Z9.out Z10.out) Z11.out) Z12.out)) Kg18.out)
  clear Kg18
  clear Ox118 Ox1h18
  clear t
  clear Kx119
  obtain ⟨x2k0, x2k1, x2k2, x2k3, x2k4, x2k5, x2k6, x2k7⟩ := vec8 Kx219.out
  go_wp2_with fail
  with_reducible refine (MX2.out _ _ _ _ Ox219.out Ox2h19.out).mono ?_
  rintro e w17 ⟨rfl, t⟩
  try clear hzx2
  clear x2k0 x2k1 x2k2 x2k3 x2k4 x2k5 x2k6 x2k7
  have Z20 := Lib.hid t.size
  have B20 := Lib.hid (B19.out.trans (t.below (Nat.le_trans (Nat.le_trans (Nat.le_trans (Nat.le_trans (Nat.le_trans (Nat.le_trans (Nat.le_trans (Nat.le_trans Z1.out Z2.out) Z3.out) Z4.out) Z5.out) Z6.out) Z7.out) Z8.out) Z9.out) B19.out.size))
  have Kp020 := Lib.hid (t.blk (.inl (Nat.lt_of_lt_of_le ZSp0.out (Nat.le_trans (Nat.le_trans (Nat.le_trans (Nat.le_trans (Nat.le_trans (Nat.le_trans (Nat.le_trans Z2.out Z3.out) Z4.out) Z5.out) Z6.out) Z7.out) Z8.out) Z9.out))) Kp019.out)
  clear Kp019
  have Kp120 := Lib.hid (t.blk (.inl (Nat.lt_of_lt_of_le ZSp1.out (Nat.le_trans (Nat.le_trans (Nat.le_trans (Nat.le_trans (Nat.le_trans (Nat.le_trans (Nat.le_trans Z2.out Z3.out) Z4.out) Z5.out) Z6.out) Z7.out) Z8.out) Z9.out))) Kp119.out)
  clear Kp119
  have Kp220 := Lib.hid (t.blk (.inl (Nat.lt_of_lt_of_le ZSp2.out (Nat.le_trans (Nat.le_trans (Nat.le_trans (Nat.le_trans (Nat.le_trans (Nat.le_trans (Nat.le_trans Z2.out Z3.out) Z4.out) Z5.out) Z6.out) Z7.out) Z8.out) Z9.out))) Kp219.out)
  clear Kp219
  have Ku20 := Lib.hid (t.blk (.inl (Nat.lt_of_lt_of_le ZSu.out (Nat.le_trans (Nat.le_trans (Nat.le_trans Z6.out Z7.out) Z8.out) Z9.out))) Ku19.out)
  clear Ku19
  have Ou20 := Lib.hid (Ou19.out.within t (.inl (Nat.le_trans (Nat.le_trans (Nat.le_trans Z6.out Z7.out) Z8.out) Z9.out)) Ouh19.out)
  have Ouh20 := Lib.hid (Nat.le_trans Ouh19.out t.size)
  clear Ou19 Ouh19
  have Kx220 := Lib.hid (t.blk (.inr (Nat.le_refl _)) Kx219.out)
  clear Kx219
  have Og20 := Lib.hid (Og19.out.within t (.inr Z11.out) Ogh19.out)
  have Ogh20 := Lib.hid (Nat.le_trans Ogh19.out t.size)
  clear Og19 Ogh19
  have Kg20 := Lib.hid (t.blk (.inr (Nat.le_trans Z11.out Z12.out)) Kg19.out)
  clear Kg19
  clear Ox219 Ox2h19
  clear t
  clear Kx220
  obtain ⟨gk0, gk1, gk2, gk3, gk4, gk5, gk6, gk7⟩ := vec8 Kg20.out
  obtain ⟨uk0, uk1, uk2, uk3, uk4, uk5, uk6, uk7⟩ := vec8 Ku20.out
  go_wp2_with fail
  with_reducible refine (EQ.out _ _ _ (Og20.out.vat Ogh20.out) (Ou20.out.vat Ouh20.out)).mono ?_
  rintro e w18 ⟨rfl, b⟩
  try clear hzg
  clear gk0 gk1 gk2 gk3 gk4 gk5 gk6 gk7
  try clear hzu
  clear uk0 uk1 uk2 uk3 uk4 uk5 uk6 uk7
  have Z21 := Lib.hid b.size
  have B21 := Lib.hid (below_then B20.out b)
  have Kp021 := Lib.hid (blk_below b Kp020.out)
  clear Kp020
  have Kp121 := Lib.hid (blk_below b Kp120.out)
  clear Kp120
  have Kp221 := Lib.hid (blk_below b Kp220.out)
  clear Kp220
  have Ku21 := Lib.hid (blk_below b Ku20.out)
  clear Ku20
  have Ou21 := Lib.hid (Ou20.out.below b Ouh20.out)
  have Ouh21 := Lib.hid (Nat.le_trans Ouh20.out b.size)
  clear Ou20 Ouh20
  have Og21 := Lib.hid (Og20.out.below b Ogh20.out)
  have Ogh21 := Lib.hid (Nat.le_trans Ogh20.out b.size)
  clear Og20 Ogh20
  have Kg21 := Lib.hid (blk_below b Kg20.out)
  clear Kg20
  clear b
  obtain ⟨gk0, gk1, gk2, gk3, gk4, gk5, gk6, gk7⟩ := vec8 Kg21.out
  go_wp2_with fail
  with_reducible refine (MV.out _ _ _ _ Og21.out Ogh21.out).mono ?_
  rintro e w19 ⟨rfl, ho, t⟩
  try clear hzg
  clear gk0 gk1 gk2 gk3 gk4 gk5 gk6 gk7
  have Z22 := Lib.hid t.size
  have B22 := Lib.hid (B21.out.trans (t.below (Nat.le_trans (Nat.le_trans (Nat.le_trans (Nat.le_trans (Nat.le_trans (Nat.le_trans (Nat.le_trans (Nat.le_trans (Nat.le_trans (Nat.le_trans Z1.out Z2.out) Z3.out) Z4.out) Z5.out) Z6.out) Z7.out) Z8.out) Z9.out) Z10.out) Z11.out) B21.out.size))
  have Kp022 := Lib.hid (t.blk (.inl (Nat.lt_of_lt_of_le ZSp0.out (Nat.le_trans (Nat.le_trans (Nat.le_trans (Nat.le_trans (Nat.le_trans (Nat.le_trans (Nat.le_trans (Nat.le_trans (Nat.le_trans Z2.out Z3.out) Z4.out) Z5.out) Z6.out) Z7.out) Z8.out) Z9.out) Z10.out) Z11.out))) Kp021.out)
  clear Kp021
  have Kp122 := Lib.hid (t.blk (.inl (Nat.lt_of_lt_of_le ZSp1.out (Nat.le_trans (Nat.le_trans (Nat.le_trans (Nat.le_trans (Nat.le_trans (Nat.le_trans (Nat.le_trans (Nat.le_trans (Nat.le_trans Z2.out Z3.out) Z4.out) Z5.out) Z6.out) Z7.out) Z8.out) Z9.out) Z10.out) Z11.out))) Kp121.out)
  clear Kp121
  have Kp222 := Lib.hid (t.blk (.inl (Nat.lt_of_lt_of_le ZSp2.out (Nat.le_trans (Nat.le_trans (Nat.le_trans (Nat.le_trans (Nat.le_trans (Nat.le_trans (Nat.le_trans (Nat.le_trans (Nat.le_trans Z2.out Z3.out) Z4.out) Z5.out) Z6.out) Z7.out) Z8.out) Z9.out) Z10.out) Z11.out))) Kp221.out)
  clear Kp221
  have Ku22 := Lib.hid (t.blk (.inl (Nat.lt_of_lt_of_le ZSu.out (Nat.le_trans (Nat.le_trans (Nat.le_trans (Nat.le_trans (Nat.le_trans Z6.out Z7.out) Z8.out) Z9.out) Z10.out) Z11.out))) Ku21.out)
  clear Ku21
  have Ou22 := Lib.hid (Ou21.out.within t (.inl (Nat.le_trans (Nat.le_trans (Nat.le_trans (Nat.le_trans (Nat.le_trans Z6.out Z7.out) Z8.out) Z9.out) Z10.out) Z11.out)) Ouh21.out)
  have Ouh22 := Lib.hid (Nat.le_trans Ouh21.out t.size)
  clear Ou21 Ouh21
  have Kg22 := Lib.hid (t.blk (.inr (Nat.le_refl _)) Kg21.out)
  clear Kg21
  have Og22 := Lib.hid ho
  have Ogh22 := Lib.hid (Nat.le_trans Ogh21.out t.size)
  clear Og21 Ogh21 ho
  clear t
  obtain ⟨gk0, gk1, gk2, gk3, gk4, gk5, gk6, gk7⟩ := vec8 Kg22.out
  go_wp2_with fail
  with_reducible refine (HV.out _ _ _ _ Og22.out Ogh22.out).mono ?_
  rintro e w20 ⟨rfl, b⟩
  try clear hzg
  clear gk0 gk1 gk2 gk3 gk4 gk5 gk6 gk7
  have Z23 := Lib.hid b.size
  have B23 := Lib.hid (below_then B22.out b)
  have Kp023 := Lib.hid (blk_below b Kp022.out)
  clear Kp022
  have Kp123 := Lib.hid (blk_below b Kp122.out)
  clear Kp122
  have Kp223 := Lib.hid (blk_below b Kp222.out)
  clear Kp222
  have Ku23 := Lib.hid (blk_below b Ku22.out)
  clear Ku22
  have Ou23 := Lib.hid (Ou22.out.below b Ouh22.out)
  have Ouh23 := Lib.hid (Nat.le_trans Ouh22.out b.size)
  clear Ou22 Ouh22
  have Og23 := Lib.hid (Og22.out.below b Ogh22.out)
  have Ogh23 := Lib.hid (Nat.le_trans Ogh22.out b.size)
  clear Og22 Ogh22
  have Kg23 := Lib.hid (blk_below b Kg22.out)
  clear Kg22
  clear b
  go_upto_region 38 with (fail)
  have H := Lib.hid (show HeldC w20 w20 ([(w.heap.size, 26, #[.int .i64 p0k, .slice p0a1 p0n1 p0m1, .slice p0a2 p0n2 p0m2, .slice p0a3 p0n3 p0m3, .slice p0a4 p0n4 p0m4, .slice p0a5 p0n5 p0m5, .int .i64 p0c, .int .i64 p0e]), ((w.heap.size + 1), 26, #[.int .i64 p1k, .slice p1a1 p1n1 p1m1, .slice p1a2 p1n2 p1m2, .slice p1a3 p1n3 p1m3, .slice p1a4 p1n4 p1m4, .slice p1a5 p1n5 p1m5, .int .i64 p1c, .int .i64 p1e]), ((w.heap.size + 1 + 1), 26, #[.int .i64 p2k, .slice p2a1 p2n1 p2m1, .slice p2a2 p2n2 p2m2, .slice p2a3 p2n3 p2m3, .slice p2a4 p2n4 p2m4, .slice p2a5 p2n5 p2m5, .int .i64 p2c, .int .i64 p2e])]) from (heldC_cons (heldC_cons (heldC_cons ⟨Below.refl _ _, (fun _ h => by cases h)⟩ Kp223.out) Kp123.out) Kp023.out))
  go_cut [18, 19] from 115 to 124 (fun pu su wx => ∃ (gu : Nat) (C : Array Value), pu = .pointer (some ⟨gu, 0, none⟩) ∧ su = .string sv ∧ MadeU V w20 wx gu C)
  case first =>
    refine run_regionT (ops := (opsOf Tryd.f6 38)) (S := fun w' => HeldC w20 w' ([(w.heap.size, 26, #[.int .i64 p0k, .slice p0a1 p0n1 p0m1, .slice p0a2 p0n2 p0m2, .slice p0a3 p0n3 p0m3, .slice p0a4 p0n4 p0m4, .slice p0a5 p0n5 p0m5, .int .i64 p0c, .int .i64 p0e]), ((w.heap.size + 1), 26, #[.int .i64 p1k, .slice p1a1 p1n1 p1m1, .slice p1a2 p1n2 p1m2, .slice p1a3 p1n3 p1m3, .slice p1a4 p1n4 p1m4, .slice p1a5 p1n5 p1m5, .int .i64 p1c, .int .i64 p1e]), ((w.heap.size + 1 + 1), 26, #[.int .i64 p2k, .slice p2a1 p2n1 p2m1, .slice p2a2 p2n2 p2m2, .slice p2a3 p2n3 p2m3, .slice p2a4 p2n4 p2m4, .slice p2a5 p2n5 p2m5, .int .i64 p2c, .int .i64 p2e])])) (.fork [(0, true), (2, true), (4, true)] 1 (.fork [] 3 (.fork [] 5 (.fork [] 6 (.leaf [(7, true), (8, true), (9, true), (10, false), (11, false), (12, true)]) 10 (.leaf [(6, false), (7, true), (8, true), (9, true), (11, false), (12, true)])) 10 (.leaf [(5, false), (6, false), (7, true), (8, true), (9, true), (11, false), (12, true)])) 10 (.leaf [(3, false), (5, false), (6, false), (7, true), (8, true), (9, true), (11, false), (12, true)])) 10 (.leaf [(1, false), (3, false), (5, false), (6, false), (7, true), (8, true), (9, true), (11, false), (12, true)])) (by kernel_rfl) (by kernel_rfl) (by kernel_rfl) (by kernel_rfl) (by kernel_rfl) (fun _ _ _ _ _ h => h) (heldC_drew H.out) ?_
    have H := Lib.hid (heldC_drew H.out)
    refine runC_lvec (b := w.heap.size) (show opAt (opsOf Tryd.f6 38) 0 = some (some 116, .load 26 (.tmp 3), none) from by kernel_rfl) (by kernel_rfl) (by kernel_rfl) (by kernel_rfl) (List.Mem.head _) ?_
    refine runC_lvec (b := (w.heap.size + 1)) (show opAt (opsOf Tryd.f6 38) 2 = some (some 118, .load 26 (.tmp 4), none) from by kernel_rfl) (by kernel_rfl) (by kernel_rfl) (by kernel_rfl) (List.Mem.tail _ (List.Mem.head _)) ?_
    refine runC_lvec (b := (w.heap.size + 1 + 1)) (show opAt (opsOf Tryd.f6 38) 4 = some (some 120, .load 26 (.tmp 5), none) from by kernel_rfl) (by kernel_rfl) (by kernel_rfl) (by kernel_rfl) (List.Mem.tail _ (List.Mem.tail _ (List.Mem.head _))) ?_
    refine run_fork H.out (by kernel_rfl) (by kernel_rfl) ?_ ?_
    · refine run_call (args := [.agg #[.int .i64 p0k, .slice p0a1 p0n1 p0m1, .slice p0a2 p0n2 p0m2, .slice p0a3 p0n3 p0m3, .slice p0a4 p0n4 p0m4, .slice p0a5 p0n5 p0m5, .int .i64 p0c, .int .i64 p0e]]) (show opAt (opsOf Tryd.f6 38) 1 = some (some 117, .call { callee := .value (.func 9), args := [(.tmp 116)].toArray, argTypes := [26].toArray }, none) from by kernel_rfl) (by kernel_rfl) (by kernel_rfl) (by kernel_rfl) (by kernel_rfl) ?_
      refine (TO0.out _ (below_then B23.out H.out.1)).mono ?_
      rintro en rw1 ⟨yt0, rfl, ho, hb⟩
      refine ⟨_, rfl, heldC_call H.out hb, ?_⟩
      have H := Lib.hid (heldC_call H.out hb)
      have A0 := Lib.hid (ResV.vatH ho)
      clear ho hb
      refine run_fork H.out (by kernel_rfl) (by kernel_rfl) ?_ ?_
      · refine run_call (args := [.agg #[.int .i64 p1k, .slice p1a1 p1n1 p1m1, .slice p1a2 p1n2 p1m2, .slice p1a3 p1n3 p1m3, .slice p1a4 p1n4 p1m4, .slice p1a5 p1n5 p1m5, .int .i64 p1c, .int .i64 p1e]]) (show opAt (opsOf Tryd.f6 38) 3 = some (some 119, .call { callee := .value (.func 9), args := [(.tmp 118)].toArray, argTypes := [26].toArray }, none) from by kernel_rfl) (by kernel_rfl) (by kernel_rfl) (by kernel_rfl) (by kernel_rfl) ?_
        refine (TO1.out _ (below_then B23.out H.out.1)).mono ?_
        rintro en rw2 ⟨yt1, rfl, ho, hb⟩
        refine ⟨_, rfl, heldC_call H.out hb, ?_⟩
        have H := Lib.hid (heldC_call H.out hb)
        have A0 := Lib.hid (A0.out.keep hb)
        have A1 := Lib.hid (ResV.vatH ho)
        clear ho hb
        refine run_fork H.out (by kernel_rfl) (by kernel_rfl) ?_ ?_
        · refine run_call (args := [.agg #[.int .i64 p2k, .slice p2a1 p2n1 p2m1, .slice p2a2 p2n2 p2m2, .slice p2a3 p2n3 p2m3, .slice p2a4 p2n4 p2m4, .slice p2a5 p2n5 p2m5, .int .i64 p2c, .int .i64 p2e]]) (show opAt (opsOf Tryd.f6 38) 5 = some (some 121, .call { callee := .value (.func 9), args := [(.tmp 120)].toArray, argTypes := [26].toArray }, none) from by kernel_rfl) (by kernel_rfl) (by kernel_rfl) (by kernel_rfl) (by kernel_rfl) ?_
          refine (TO2.out _ (below_then B23.out H.out.1)).mono ?_
          rintro en rw3 ⟨yt2, rfl, ho, hb⟩
          refine ⟨_, rfl, heldC_call H.out hb, ?_⟩
          have H := Lib.hid (heldC_call H.out hb)
          have A0 := Lib.hid (A0.out.keep hb)
          have A1 := Lib.hid (A1.out.keep hb)
          have A2 := Lib.hid (ResV.vatH ho)
          clear ho hb
          refine run_fork H.out (by kernel_rfl) (by kernel_rfl) ?_ ?_
          · refine run_call (args := [yt0, yt1, yt2]) (show opAt (opsOf Tryd.f6 38) 6 = some (some 122, .call { callee := .value (.func 27), args := [(.tmp 117), (.tmp 119), (.tmp 121)].toArray, argTypes := [31, 31, 31].toArray }, none) from by kernel_rfl) (by kernel_rfl) (by kernel_rfl) (by kernel_rfl) (by kernel_rfl) ?_
            refine (IM.out _ yt0 yt1 yt2 A0.out.out A1.out.out A2.out.out (below_then B23.out H.out.1)).mono ?_
            rintro en rw4 ⟨yu, rfl, ho, hb⟩
            refine ⟨_, rfl, heldC_call H.out hb, ?_⟩
            obtain ⟨yuk, yua1, yun1, yum1, yua2, yun2, yum2, yua3, yun3, yum3, yua4, yun4, yum4, yua5, yun5, yum5, yuc, yue, rfl⟩ := ho.agg
            (try have UB := Lib.hid (Array.getElem?_eq_some_iff.1 N10.out.out).1)
            have LU := Lib.hid H.out.1.size
            have H := Lib.hid (heldC_call H.out hb)
            have A0 := Lib.hid (A0.out.keep hb)
            have A1 := Lib.hid (A1.out.keep hb)
            have A2 := Lib.hid (A2.out.keep hb)
            have OU := Lib.hid (⟨ho, Nat.le_refl _⟩ : OwnH 1 V _ _ _ _)
            clear ho hb
            refine run_mov (v := .tuple #[.agg #[.int .i64 yuk, .slice yua1 yun1 yum1, .slice yua2 yun2 yum2, .slice yua3 yun3 yum3, .slice yua4 yun4 yum4, .slice yua5 yun5 yum5, .int .i64 yuc, .int .i64 yue], .string sv]) (show opAt (opsOf Tryd.f6 38) 7 = some (some 115, .move (.tmp 122), none) from by kernel_rfl) (by kernel_rfl) (by kernel_rfl) (by kernel_rfl) ?_
            refine run_extract (vs := #[.agg #[.int .i64 yuk, .slice yua1 yun1 yum1, .slice yua2 yun2 yum2, .slice yua3 yun3 yum3, .slice yua4 yun4 yum4, .slice yua5 yun5 yum5, .int .i64 yuc, .int .i64 yue], .string sv]) (v := .agg #[.int .i64 yuk, .slice yua1 yun1 yum1, .slice yua2 yun2 yum2, .slice yua3 yun3 yum3, .slice yua4 yun4 yum4, .slice yua5 yun5 yum5, .int .i64 yuc, .int .i64 yue]) (show opAt (opsOf Tryd.f6 38) 8 = some (some 123, .extract (.tmp 115) 0, none) from by kernel_rfl) (by kernel_rfl) (by kernel_rfl) (by kernel_rfl) (by rfl) ?_
            refine run_extract (vs := #[.agg #[.int .i64 yuk, .slice yua1 yun1 yum1, .slice yua2 yun2 yum2, .slice yua3 yun3 yum3, .slice yua4 yun4 yum4, .slice yua5 yun5 yum5, .int .i64 yuc, .int .i64 yue], .string sv]) (v := .string sv) (show opAt (opsOf Tryd.f6 38) 9 = some (some 124, .extract (.tmp 115) 1, none) from by kernel_rfl) (by kernel_rfl) (by kernel_rfl) (by kernel_rfl) (by rfl) ?_
            refine run_new (C := #[.int .i64 0, .slice none 0 0, .slice none 0 0, .slice none 0 0, .slice none 0 0, .slice none 0 0, .int .i64 0, .int .i64 0]) (show opAt (opsOf Tryd.f6 38) 10 = some (some 18, .alloc 31, none) from by kernel_rfl) (by kernel_rfl) (by kernel_rfl) new_vec (fun W10 n10 hW10 hn10 => ?_)
            subst hW10
            refine ⟨heldC_call H.out (below1 _ _), ?_⟩
            have N10 := Lib.hid (⟨blk_new _ _ hn10⟩ : NewB n10 31 #[.int .i64 0, .slice none 0 0, .slice none 0 0, .slice none 0 0, .slice none 0 0, .slice none 0 0, .int .i64 0, .int .i64 0] _)
            have G10 := Lib.hid (by rw [hn10]; exact H.out.1.size : w20.heap.size ≤ n10)
            have F10_0 := Lib.hid (by rw [hn10]; exact (Array.getElem?_eq_some_iff.1 (heldC_at H.out (List.Mem.head _))).1 : w.heap.size < n10)
            have F10_1 := Lib.hid (by rw [hn10]; exact (Array.getElem?_eq_some_iff.1 (heldC_at H.out (List.Mem.tail _ (List.Mem.head _)))).1 : (w.heap.size + 1) < n10)
            have F10_2 := Lib.hid (by rw [hn10]; exact (Array.getElem?_eq_some_iff.1 (heldC_at H.out (List.Mem.tail _ (List.Mem.tail _ (List.Mem.head _))))).1 : (w.heap.size + 1 + 1) < n10)
            have A0 := Lib.hid (A0.out.keep (below1 _ (.cells #[.int .i64 0, .slice none 0 0, .slice none 0 0, .slice none 0 0, .slice none 0 0, .slice none 0 0, .int .i64 0, .int .i64 0] 31)))
            have A1 := Lib.hid (A1.out.keep (below1 _ (.cells #[.int .i64 0, .slice none 0 0, .slice none 0 0, .slice none 0 0, .slice none 0 0, .slice none 0 0, .int .i64 0, .int .i64 0] 31)))
            have A2 := Lib.hid (A2.out.keep (below1 _ (.cells #[.int .i64 0, .slice none 0 0, .slice none 0 0, .slice none 0 0, .slice none 0 0, .slice none 0 0, .int .i64 0, .int .i64 0] 31)))
            have OU := Lib.hid (OU.out.keep (below1 _ (.cells #[.int .i64 0, .slice none 0 0, .slice none 0 0, .slice none 0 0, .slice none 0 0, .slice none 0 0, .int .i64 0, .int .i64 0] 31)))
            have H := Lib.hid (heldC_call H.out (below1 _ (.cells #[.int .i64 0, .slice none 0 0, .slice none 0 0, .slice none 0 0, .slice none 0 0, .slice none 0 0, .int .i64 0, .int .i64 0] 31)))
            have NE10 := Lib.hid hn10
            clear hn10
            refine run_store (w' := World.setRow _ n10 #[.int .i64 yuk, .slice yua1 yun1 yum1, .slice yua2 yun2 yum2, .slice yua3 yun3 yum3, .slice yua4 yun4 yum4, .slice yua5 yun5 yum5, .int .i64 yuc, .int .i64 yue]) (show opAt (opsOf Tryd.f6 38) 11 = some (none, .store 31 (.tmp 18) (.tmp 123), none) from by kernel_rfl) (by kernel_rfl) (by kernel_rfl) (by kernel_rfl) (store_vec8 N10.out.out (by simp [Value.oneCell'])) (⟨below_row H.out.1 G10.out _, fun q hq => row_old (H.out.2 q hq) (by have := F10_0.out; have := F10_1.out; have := F10_2.out; simp only [List.mem_cons, List.not_mem_nil, or_false] at hq; rcases hq with rfl | rfl | rfl <;> (simp only; omega))⟩) ?_
            refine run_asg (v := .string sv) (show opAt (opsOf Tryd.f6 38) 12 = some (some 19, .assign (.tmp 124), none) from by kernel_rfl) (by kernel_rfl) (by kernel_rfl) (by kernel_rfl) ?_
            refine run_done ?_
            simp only [putAll, Act.put, List.setIfInBounds_toArray, List.set_cons_zero, List.set_cons_succ]
            go_wp2_with fail
            go_meet
            exact ⟨_, _, rfl, rfl, ⟨row_set N10.out.out, (OU.out.own.rowO (by first | (left; have := UB.out; omega) | (right; have := NE10.out; omega))).wide LU.out (Nat.le_trans OU.out.hh (row_size _ _ _)), below_row H.out.1 G10.out _, G10.out⟩⟩
          · refine run_new (C := #[.int .i64 0, .slice none 0 0, .slice none 0 0, .slice none 0 0, .slice none 0 0, .slice none 0 0, .int .i64 0, .int .i64 0]) (show opAt (opsOf Tryd.f6 38) 10 = some (some 18, .alloc 31, none) from by kernel_rfl) (by kernel_rfl) (by kernel_rfl) new_vec (fun W10 n10 hW10 hn10 => ?_)
            subst hW10
            refine ⟨heldC_call H.out (below1 _ _), ?_⟩
            have N10 := Lib.hid (⟨blk_new _ _ hn10⟩ : NewB n10 31 #[.int .i64 0, .slice none 0 0, .slice none 0 0, .slice none 0 0, .slice none 0 0, .slice none 0 0, .int .i64 0, .int .i64 0] _)
            have G10 := Lib.hid (by rw [hn10]; exact H.out.1.size : w20.heap.size ≤ n10)
            have F10_0 := Lib.hid (by rw [hn10]; exact (Array.getElem?_eq_some_iff.1 (heldC_at H.out (List.Mem.head _))).1 : w.heap.size < n10)
            have F10_1 := Lib.hid (by rw [hn10]; exact (Array.getElem?_eq_some_iff.1 (heldC_at H.out (List.Mem.tail _ (List.Mem.head _)))).1 : (w.heap.size + 1) < n10)
            have F10_2 := Lib.hid (by rw [hn10]; exact (Array.getElem?_eq_some_iff.1 (heldC_at H.out (List.Mem.tail _ (List.Mem.tail _ (List.Mem.head _))))).1 : (w.heap.size + 1 + 1) < n10)
            have A0 := Lib.hid (A0.out.keep (below1 _ (.cells #[.int .i64 0, .slice none 0 0, .slice none 0 0, .slice none 0 0, .slice none 0 0, .slice none 0 0, .int .i64 0, .int .i64 0] 31)))
            have A1 := Lib.hid (A1.out.keep (below1 _ (.cells #[.int .i64 0, .slice none 0 0, .slice none 0 0, .slice none 0 0, .slice none 0 0, .slice none 0 0, .int .i64 0, .int .i64 0] 31)))
            have A2 := Lib.hid (A2.out.keep (below1 _ (.cells #[.int .i64 0, .slice none 0 0, .slice none 0 0, .slice none 0 0, .slice none 0 0, .slice none 0 0, .int .i64 0, .int .i64 0] 31)))
            have H := Lib.hid (heldC_call H.out (below1 _ (.cells #[.int .i64 0, .slice none 0 0, .slice none 0 0, .slice none 0 0, .slice none 0 0, .slice none 0 0, .int .i64 0, .int .i64 0] 31)))
            have NE10 := Lib.hid hn10
            clear hn10
            refine run_call (args := [yt0, yt1, yt2]) (show opAt (opsOf Tryd.f6 38) 6 = some (some 122, .call { callee := .value (.func 27), args := [(.tmp 117), (.tmp 119), (.tmp 121)].toArray, argTypes := [31, 31, 31].toArray }, none) from by kernel_rfl) (by kernel_rfl) (by kernel_rfl) (by kernel_rfl) (by kernel_rfl) ?_
            refine (IM.out _ yt0 yt1 yt2 A0.out.out A1.out.out A2.out.out (below_then B23.out H.out.1)).mono ?_
            rintro en rw4 ⟨yu, rfl, ho, hb⟩
            refine ⟨_, rfl, heldC_call H.out hb, ?_⟩
            obtain ⟨yuk, yua1, yun1, yum1, yua2, yun2, yum2, yua3, yun3, yum3, yua4, yun4, yum4, yua5, yun5, yum5, yuc, yue, rfl⟩ := ho.agg
            (try have UB := Lib.hid (Array.getElem?_eq_some_iff.1 N10.out.out).1)
            have LU := Lib.hid H.out.1.size
            have H := Lib.hid (heldC_call H.out hb)
            have A0 := Lib.hid (A0.out.keep hb)
            have A1 := Lib.hid (A1.out.keep hb)
            have A2 := Lib.hid (A2.out.keep hb)
            have N10 := Lib.hid (N10.out.keep hb)
            have OU := Lib.hid (⟨ho, Nat.le_refl _⟩ : OwnH 1 V _ _ _ _)
            clear ho hb
            refine run_mov (v := .tuple #[.agg #[.int .i64 yuk, .slice yua1 yun1 yum1, .slice yua2 yun2 yum2, .slice yua3 yun3 yum3, .slice yua4 yun4 yum4, .slice yua5 yun5 yum5, .int .i64 yuc, .int .i64 yue], .string sv]) (show opAt (opsOf Tryd.f6 38) 7 = some (some 115, .move (.tmp 122), none) from by kernel_rfl) (by kernel_rfl) (by kernel_rfl) (by kernel_rfl) ?_
            refine run_extract (vs := #[.agg #[.int .i64 yuk, .slice yua1 yun1 yum1, .slice yua2 yun2 yum2, .slice yua3 yun3 yum3, .slice yua4 yun4 yum4, .slice yua5 yun5 yum5, .int .i64 yuc, .int .i64 yue], .string sv]) (v := .agg #[.int .i64 yuk, .slice yua1 yun1 yum1, .slice yua2 yun2 yum2, .slice yua3 yun3 yum3, .slice yua4 yun4 yum4, .slice yua5 yun5 yum5, .int .i64 yuc, .int .i64 yue]) (show opAt (opsOf Tryd.f6 38) 8 = some (some 123, .extract (.tmp 115) 0, none) from by kernel_rfl) (by kernel_rfl) (by kernel_rfl) (by kernel_rfl) (by rfl) ?_
            refine run_extract (vs := #[.agg #[.int .i64 yuk, .slice yua1 yun1 yum1, .slice yua2 yun2 yum2, .slice yua3 yun3 yum3, .slice yua4 yun4 yum4, .slice yua5 yun5 yum5, .int .i64 yuc, .int .i64 yue], .string sv]) (v := .string sv) (show opAt (opsOf Tryd.f6 38) 9 = some (some 124, .extract (.tmp 115) 1, none) from by kernel_rfl) (by kernel_rfl) (by kernel_rfl) (by kernel_rfl) (by rfl) ?_
            refine run_store (w' := World.setRow _ n10 #[.int .i64 yuk, .slice yua1 yun1 yum1, .slice yua2 yun2 yum2, .slice yua3 yun3 yum3, .slice yua4 yun4 yum4, .slice yua5 yun5 yum5, .int .i64 yuc, .int .i64 yue]) (show opAt (opsOf Tryd.f6 38) 11 = some (none, .store 31 (.tmp 18) (.tmp 123), none) from by kernel_rfl) (by kernel_rfl) (by kernel_rfl) (by kernel_rfl) (store_vec8 N10.out.out (by simp [Value.oneCell'])) (⟨below_row H.out.1 G10.out _, fun q hq => row_old (H.out.2 q hq) (by have := F10_0.out; have := F10_1.out; have := F10_2.out; simp only [List.mem_cons, List.not_mem_nil, or_false] at hq; rcases hq with rfl | rfl | rfl <;> (simp only; omega))⟩) ?_
            refine run_asg (v := .string sv) (show opAt (opsOf Tryd.f6 38) 12 = some (some 19, .assign (.tmp 124), none) from by kernel_rfl) (by kernel_rfl) (by kernel_rfl) (by kernel_rfl) ?_
            refine run_done ?_
            simp only [putAll, Act.put, List.setIfInBounds_toArray, List.set_cons_zero, List.set_cons_succ]
            go_wp2_with fail
            go_meet
            exact ⟨_, _, rfl, rfl, ⟨row_set N10.out.out, (OU.out.own.rowO (by first | (left; have := UB.out; omega) | (right; have := NE10.out; omega))).wide LU.out (Nat.le_trans OU.out.hh (row_size _ _ _)), below_row H.out.1 G10.out _, G10.out⟩⟩
        · refine run_new (C := #[.int .i64 0, .slice none 0 0, .slice none 0 0, .slice none 0 0, .slice none 0 0, .slice none 0 0, .int .i64 0, .int .i64 0]) (show opAt (opsOf Tryd.f6 38) 10 = some (some 18, .alloc 31, none) from by kernel_rfl) (by kernel_rfl) (by kernel_rfl) new_vec (fun W10 n10 hW10 hn10 => ?_)
          subst hW10
          refine ⟨heldC_call H.out (below1 _ _), ?_⟩
          have N10 := Lib.hid (⟨blk_new _ _ hn10⟩ : NewB n10 31 #[.int .i64 0, .slice none 0 0, .slice none 0 0, .slice none 0 0, .slice none 0 0, .slice none 0 0, .int .i64 0, .int .i64 0] _)
          have G10 := Lib.hid (by rw [hn10]; exact H.out.1.size : w20.heap.size ≤ n10)
          have F10_0 := Lib.hid (by rw [hn10]; exact (Array.getElem?_eq_some_iff.1 (heldC_at H.out (List.Mem.head _))).1 : w.heap.size < n10)
          have F10_1 := Lib.hid (by rw [hn10]; exact (Array.getElem?_eq_some_iff.1 (heldC_at H.out (List.Mem.tail _ (List.Mem.head _)))).1 : (w.heap.size + 1) < n10)
          have F10_2 := Lib.hid (by rw [hn10]; exact (Array.getElem?_eq_some_iff.1 (heldC_at H.out (List.Mem.tail _ (List.Mem.tail _ (List.Mem.head _))))).1 : (w.heap.size + 1 + 1) < n10)
          have A0 := Lib.hid (A0.out.keep (below1 _ (.cells #[.int .i64 0, .slice none 0 0, .slice none 0 0, .slice none 0 0, .slice none 0 0, .slice none 0 0, .int .i64 0, .int .i64 0] 31)))
          have A1 := Lib.hid (A1.out.keep (below1 _ (.cells #[.int .i64 0, .slice none 0 0, .slice none 0 0, .slice none 0 0, .slice none 0 0, .slice none 0 0, .int .i64 0, .int .i64 0] 31)))
          have H := Lib.hid (heldC_call H.out (below1 _ (.cells #[.int .i64 0, .slice none 0 0, .slice none 0 0, .slice none 0 0, .slice none 0 0, .slice none 0 0, .int .i64 0, .int .i64 0] 31)))
          have NE10 := Lib.hid hn10
          clear hn10
          refine run_call (args := [.agg #[.int .i64 p2k, .slice p2a1 p2n1 p2m1, .slice p2a2 p2n2 p2m2, .slice p2a3 p2n3 p2m3, .slice p2a4 p2n4 p2m4, .slice p2a5 p2n5 p2m5, .int .i64 p2c, .int .i64 p2e]]) (show opAt (opsOf Tryd.f6 38) 5 = some (some 121, .call { callee := .value (.func 9), args := [(.tmp 120)].toArray, argTypes := [26].toArray }, none) from by kernel_rfl) (by kernel_rfl) (by kernel_rfl) (by kernel_rfl) (by kernel_rfl) ?_
          refine (TO2.out _ (below_then B23.out H.out.1)).mono ?_
          rintro en rw3 ⟨yt2, rfl, ho, hb⟩
          refine ⟨_, rfl, heldC_call H.out hb, ?_⟩
          have H := Lib.hid (heldC_call H.out hb)
          have A0 := Lib.hid (A0.out.keep hb)
          have A1 := Lib.hid (A1.out.keep hb)
          have N10 := Lib.hid (N10.out.keep hb)
          have A2 := Lib.hid (ResV.vatH ho)
          clear ho hb
          refine run_call (args := [yt0, yt1, yt2]) (show opAt (opsOf Tryd.f6 38) 6 = some (some 122, .call { callee := .value (.func 27), args := [(.tmp 117), (.tmp 119), (.tmp 121)].toArray, argTypes := [31, 31, 31].toArray }, none) from by kernel_rfl) (by kernel_rfl) (by kernel_rfl) (by kernel_rfl) (by kernel_rfl) ?_
          refine (IM.out _ yt0 yt1 yt2 A0.out.out A1.out.out A2.out.out (below_then B23.out H.out.1)).mono ?_
          rintro en rw4 ⟨yu, rfl, ho, hb⟩
          refine ⟨_, rfl, heldC_call H.out hb, ?_⟩
          obtain ⟨yuk, yua1, yun1, yum1, yua2, yun2, yum2, yua3, yun3, yum3, yua4, yun4, yum4, yua5, yun5, yum5, yuc, yue, rfl⟩ := ho.agg
          (try have UB := Lib.hid (Array.getElem?_eq_some_iff.1 N10.out.out).1)
          have LU := Lib.hid H.out.1.size
          have H := Lib.hid (heldC_call H.out hb)
          have A0 := Lib.hid (A0.out.keep hb)
          have A1 := Lib.hid (A1.out.keep hb)
          have N10 := Lib.hid (N10.out.keep hb)
          have A2 := Lib.hid (A2.out.keep hb)
          have OU := Lib.hid (⟨ho, Nat.le_refl _⟩ : OwnH 1 V _ _ _ _)
          clear ho hb
          refine run_mov (v := .tuple #[.agg #[.int .i64 yuk, .slice yua1 yun1 yum1, .slice yua2 yun2 yum2, .slice yua3 yun3 yum3, .slice yua4 yun4 yum4, .slice yua5 yun5 yum5, .int .i64 yuc, .int .i64 yue], .string sv]) (show opAt (opsOf Tryd.f6 38) 7 = some (some 115, .move (.tmp 122), none) from by kernel_rfl) (by kernel_rfl) (by kernel_rfl) (by kernel_rfl) ?_
          refine run_extract (vs := #[.agg #[.int .i64 yuk, .slice yua1 yun1 yum1, .slice yua2 yun2 yum2, .slice yua3 yun3 yum3, .slice yua4 yun4 yum4, .slice yua5 yun5 yum5, .int .i64 yuc, .int .i64 yue], .string sv]) (v := .agg #[.int .i64 yuk, .slice yua1 yun1 yum1, .slice yua2 yun2 yum2, .slice yua3 yun3 yum3, .slice yua4 yun4 yum4, .slice yua5 yun5 yum5, .int .i64 yuc, .int .i64 yue]) (show opAt (opsOf Tryd.f6 38) 8 = some (some 123, .extract (.tmp 115) 0, none) from by kernel_rfl) (by kernel_rfl) (by kernel_rfl) (by kernel_rfl) (by rfl) ?_
          refine run_extract (vs := #[.agg #[.int .i64 yuk, .slice yua1 yun1 yum1, .slice yua2 yun2 yum2, .slice yua3 yun3 yum3, .slice yua4 yun4 yum4, .slice yua5 yun5 yum5, .int .i64 yuc, .int .i64 yue], .string sv]) (v := .string sv) (show opAt (opsOf Tryd.f6 38) 9 = some (some 124, .extract (.tmp 115) 1, none) from by kernel_rfl) (by kernel_rfl) (by kernel_rfl) (by kernel_rfl) (by rfl) ?_
          refine run_store (w' := World.setRow _ n10 #[.int .i64 yuk, .slice yua1 yun1 yum1, .slice yua2 yun2 yum2, .slice yua3 yun3 yum3, .slice yua4 yun4 yum4, .slice yua5 yun5 yum5, .int .i64 yuc, .int .i64 yue]) (show opAt (opsOf Tryd.f6 38) 11 = some (none, .store 31 (.tmp 18) (.tmp 123), none) from by kernel_rfl) (by kernel_rfl) (by kernel_rfl) (by kernel_rfl) (store_vec8 N10.out.out (by simp [Value.oneCell'])) (⟨below_row H.out.1 G10.out _, fun q hq => row_old (H.out.2 q hq) (by have := F10_0.out; have := F10_1.out; have := F10_2.out; simp only [List.mem_cons, List.not_mem_nil, or_false] at hq; rcases hq with rfl | rfl | rfl <;> (simp only; omega))⟩) ?_
          refine run_asg (v := .string sv) (show opAt (opsOf Tryd.f6 38) 12 = some (some 19, .assign (.tmp 124), none) from by kernel_rfl) (by kernel_rfl) (by kernel_rfl) (by kernel_rfl) ?_
          refine run_done ?_
          simp only [putAll, Act.put, List.setIfInBounds_toArray, List.set_cons_zero, List.set_cons_succ]
          go_wp2_with fail
          go_meet
          exact ⟨_, _, rfl, rfl, ⟨row_set N10.out.out, (OU.out.own.rowO (by first | (left; have := UB.out; omega) | (right; have := NE10.out; omega))).wide LU.out (Nat.le_trans OU.out.hh (row_size _ _ _)), below_row H.out.1 G10.out _, G10.out⟩⟩
      · refine run_new (C := #[.int .i64 0, .slice none 0 0, .slice none 0 0, .slice none 0 0, .slice none 0 0, .slice none 0 0, .int .i64 0, .int .i64 0]) (show opAt (opsOf Tryd.f6 38) 10 = some (some 18, .alloc 31, none) from by kernel_rfl) (by kernel_rfl) (by kernel_rfl) new_vec (fun W10 n10 hW10 hn10 => ?_)
        subst hW10
        refine ⟨heldC_call H.out (below1 _ _), ?_⟩
        have N10 := Lib.hid (⟨blk_new _ _ hn10⟩ : NewB n10 31 #[.int .i64 0, .slice none 0 0, .slice none 0 0, .slice none 0 0, .slice none 0 0, .slice none 0 0, .int .i64 0, .int .i64 0] _)
        have G10 := Lib.hid (by rw [hn10]; exact H.out.1.size : w20.heap.size ≤ n10)
        have F10_0 := Lib.hid (by rw [hn10]; exact (Array.getElem?_eq_some_iff.1 (heldC_at H.out (List.Mem.head _))).1 : w.heap.size < n10)
        have F10_1 := Lib.hid (by rw [hn10]; exact (Array.getElem?_eq_some_iff.1 (heldC_at H.out (List.Mem.tail _ (List.Mem.head _)))).1 : (w.heap.size + 1) < n10)
        have F10_2 := Lib.hid (by rw [hn10]; exact (Array.getElem?_eq_some_iff.1 (heldC_at H.out (List.Mem.tail _ (List.Mem.tail _ (List.Mem.head _))))).1 : (w.heap.size + 1 + 1) < n10)
        have A0 := Lib.hid (A0.out.keep (below1 _ (.cells #[.int .i64 0, .slice none 0 0, .slice none 0 0, .slice none 0 0, .slice none 0 0, .slice none 0 0, .int .i64 0, .int .i64 0] 31)))
        have H := Lib.hid (heldC_call H.out (below1 _ (.cells #[.int .i64 0, .slice none 0 0, .slice none 0 0, .slice none 0 0, .slice none 0 0, .slice none 0 0, .int .i64 0, .int .i64 0] 31)))
        have NE10 := Lib.hid hn10
        clear hn10
        refine run_call (args := [.agg #[.int .i64 p1k, .slice p1a1 p1n1 p1m1, .slice p1a2 p1n2 p1m2, .slice p1a3 p1n3 p1m3, .slice p1a4 p1n4 p1m4, .slice p1a5 p1n5 p1m5, .int .i64 p1c, .int .i64 p1e]]) (show opAt (opsOf Tryd.f6 38) 3 = some (some 119, .call { callee := .value (.func 9), args := [(.tmp 118)].toArray, argTypes := [26].toArray }, none) from by kernel_rfl) (by kernel_rfl) (by kernel_rfl) (by kernel_rfl) (by kernel_rfl) ?_
        refine (TO1.out _ (below_then B23.out H.out.1)).mono ?_
        rintro en rw2 ⟨yt1, rfl, ho, hb⟩
        refine ⟨_, rfl, heldC_call H.out hb, ?_⟩
        have H := Lib.hid (heldC_call H.out hb)
        have A0 := Lib.hid (A0.out.keep hb)
        have N10 := Lib.hid (N10.out.keep hb)
        have A1 := Lib.hid (ResV.vatH ho)
        clear ho hb
        refine run_call (args := [.agg #[.int .i64 p2k, .slice p2a1 p2n1 p2m1, .slice p2a2 p2n2 p2m2, .slice p2a3 p2n3 p2m3, .slice p2a4 p2n4 p2m4, .slice p2a5 p2n5 p2m5, .int .i64 p2c, .int .i64 p2e]]) (show opAt (opsOf Tryd.f6 38) 5 = some (some 121, .call { callee := .value (.func 9), args := [(.tmp 120)].toArray, argTypes := [26].toArray }, none) from by kernel_rfl) (by kernel_rfl) (by kernel_rfl) (by kernel_rfl) (by kernel_rfl) ?_
        refine (TO2.out _ (below_then B23.out H.out.1)).mono ?_
        rintro en rw3 ⟨yt2, rfl, ho, hb⟩
        refine ⟨_, rfl, heldC_call H.out hb, ?_⟩
        have H := Lib.hid (heldC_call H.out hb)
        have A0 := Lib.hid (A0.out.keep hb)
        have N10 := Lib.hid (N10.out.keep hb)
        have A1 := Lib.hid (A1.out.keep hb)
        have A2 := Lib.hid (ResV.vatH ho)
        clear ho hb
        refine run_call (args := [yt0, yt1, yt2]) (show opAt (opsOf Tryd.f6 38) 6 = some (some 122, .call { callee := .value (.func 27), args := [(.tmp 117), (.tmp 119), (.tmp 121)].toArray, argTypes := [31, 31, 31].toArray }, none) from by kernel_rfl) (by kernel_rfl) (by kernel_rfl) (by kernel_rfl) (by kernel_rfl) ?_
        refine (IM.out _ yt0 yt1 yt2 A0.out.out A1.out.out A2.out.out (below_then B23.out H.out.1)).mono ?_
        rintro en rw4 ⟨yu, rfl, ho, hb⟩
        refine ⟨_, rfl, heldC_call H.out hb, ?_⟩
        obtain ⟨yuk, yua1, yun1, yum1, yua2, yun2, yum2, yua3, yun3, yum3, yua4, yun4, yum4, yua5, yun5, yum5, yuc, yue, rfl⟩ := ho.agg
        (try have UB := Lib.hid (Array.getElem?_eq_some_iff.1 N10.out.out).1)
        have LU := Lib.hid H.out.1.size
        have H := Lib.hid (heldC_call H.out hb)
        have A0 := Lib.hid (A0.out.keep hb)
        have N10 := Lib.hid (N10.out.keep hb)
        have A1 := Lib.hid (A1.out.keep hb)
        have A2 := Lib.hid (A2.out.keep hb)
        have OU := Lib.hid (⟨ho, Nat.le_refl _⟩ : OwnH 1 V _ _ _ _)
        clear ho hb
        refine run_mov (v := .tuple #[.agg #[.int .i64 yuk, .slice yua1 yun1 yum1, .slice yua2 yun2 yum2, .slice yua3 yun3 yum3, .slice yua4 yun4 yum4, .slice yua5 yun5 yum5, .int .i64 yuc, .int .i64 yue], .string sv]) (show opAt (opsOf Tryd.f6 38) 7 = some (some 115, .move (.tmp 122), none) from by kernel_rfl) (by kernel_rfl) (by kernel_rfl) (by kernel_rfl) ?_
        refine run_extract (vs := #[.agg #[.int .i64 yuk, .slice yua1 yun1 yum1, .slice yua2 yun2 yum2, .slice yua3 yun3 yum3, .slice yua4 yun4 yum4, .slice yua5 yun5 yum5, .int .i64 yuc, .int .i64 yue], .string sv]) (v := .agg #[.int .i64 yuk, .slice yua1 yun1 yum1, .slice yua2 yun2 yum2, .slice yua3 yun3 yum3, .slice yua4 yun4 yum4, .slice yua5 yun5 yum5, .int .i64 yuc, .int .i64 yue]) (show opAt (opsOf Tryd.f6 38) 8 = some (some 123, .extract (.tmp 115) 0, none) from by kernel_rfl) (by kernel_rfl) (by kernel_rfl) (by kernel_rfl) (by rfl) ?_
        refine run_extract (vs := #[.agg #[.int .i64 yuk, .slice yua1 yun1 yum1, .slice yua2 yun2 yum2, .slice yua3 yun3 yum3, .slice yua4 yun4 yum4, .slice yua5 yun5 yum5, .int .i64 yuc, .int .i64 yue], .string sv]) (v := .string sv) (show opAt (opsOf Tryd.f6 38) 9 = some (some 124, .extract (.tmp 115) 1, none) from by kernel_rfl) (by kernel_rfl) (by kernel_rfl) (by kernel_rfl) (by rfl) ?_
        refine run_store (w' := World.setRow _ n10 #[.int .i64 yuk, .slice yua1 yun1 yum1, .slice yua2 yun2 yum2, .slice yua3 yun3 yum3, .slice yua4 yun4 yum4, .slice yua5 yun5 yum5, .int .i64 yuc, .int .i64 yue]) (show opAt (opsOf Tryd.f6 38) 11 = some (none, .store 31 (.tmp 18) (.tmp 123), none) from by kernel_rfl) (by kernel_rfl) (by kernel_rfl) (by kernel_rfl) (store_vec8 N10.out.out (by simp [Value.oneCell'])) (⟨below_row H.out.1 G10.out _, fun q hq => row_old (H.out.2 q hq) (by have := F10_0.out; have := F10_1.out; have := F10_2.out; simp only [List.mem_cons, List.not_mem_nil, or_false] at hq; rcases hq with rfl | rfl | rfl <;> (simp only; omega))⟩) ?_
        refine run_asg (v := .string sv) (show opAt (opsOf Tryd.f6 38) 12 = some (some 19, .assign (.tmp 124), none) from by kernel_rfl) (by kernel_rfl) (by kernel_rfl) (by kernel_rfl) ?_
        refine run_done ?_
        simp only [putAll, Act.put, List.setIfInBounds_toArray, List.set_cons_zero, List.set_cons_succ]
        go_wp2_with fail
        go_meet
        exact ⟨_, _, rfl, rfl, ⟨row_set N10.out.out, (OU.out.own.rowO (by first | (left; have := UB.out; omega) | (right; have := NE10.out; omega))).wide LU.out (Nat.le_trans OU.out.hh (row_size _ _ _)), below_row H.out.1 G10.out _, G10.out⟩⟩
    · refine run_new (C := #[.int .i64 0, .slice none 0 0, .slice none 0 0, .slice none 0 0, .slice none 0 0, .slice none 0 0, .int .i64 0, .int .i64 0]) (show opAt (opsOf Tryd.f6 38) 10 = some (some 18, .alloc 31, none) from by kernel_rfl) (by kernel_rfl) (by kernel_rfl) new_vec (fun W10 n10 hW10 hn10 => ?_)
      subst hW10
      refine ⟨heldC_call H.out (below1 _ _), ?_⟩
      have N10 := Lib.hid (⟨blk_new _ _ hn10⟩ : NewB n10 31 #[.int .i64 0, .slice none 0 0, .slice none 0 0, .slice none 0 0, .slice none 0 0, .slice none 0 0, .int .i64 0, .int .i64 0] _)
      have G10 := Lib.hid (by rw [hn10]; exact H.out.1.size : w20.heap.size ≤ n10)
      have F10_0 := Lib.hid (by rw [hn10]; exact (Array.getElem?_eq_some_iff.1 (heldC_at H.out (List.Mem.head _))).1 : w.heap.size < n10)
      have F10_1 := Lib.hid (by rw [hn10]; exact (Array.getElem?_eq_some_iff.1 (heldC_at H.out (List.Mem.tail _ (List.Mem.head _)))).1 : (w.heap.size + 1) < n10)
      have F10_2 := Lib.hid (by rw [hn10]; exact (Array.getElem?_eq_some_iff.1 (heldC_at H.out (List.Mem.tail _ (List.Mem.tail _ (List.Mem.head _))))).1 : (w.heap.size + 1 + 1) < n10)
      have H := Lib.hid (heldC_call H.out (below1 _ (.cells #[.int .i64 0, .slice none 0 0, .slice none 0 0, .slice none 0 0, .slice none 0 0, .slice none 0 0, .int .i64 0, .int .i64 0] 31)))
      have NE10 := Lib.hid hn10
      clear hn10
      refine run_call (args := [.agg #[.int .i64 p0k, .slice p0a1 p0n1 p0m1, .slice p0a2 p0n2 p0m2, .slice p0a3 p0n3 p0m3, .slice p0a4 p0n4 p0m4, .slice p0a5 p0n5 p0m5, .int .i64 p0c, .int .i64 p0e]]) (show opAt (opsOf Tryd.f6 38) 1 = some (some 117, .call { callee := .value (.func 9), args := [(.tmp 116)].toArray, argTypes := [26].toArray }, none) from by kernel_rfl) (by kernel_rfl) (by kernel_rfl) (by kernel_rfl) (by kernel_rfl) ?_
      refine (TO0.out _ (below_then B23.out H.out.1)).mono ?_
      rintro en rw1 ⟨yt0, rfl, ho, hb⟩
      refine ⟨_, rfl, heldC_call H.out hb, ?_⟩
      have H := Lib.hid (heldC_call H.out hb)
      have N10 := Lib.hid (N10.out.keep hb)
      have A0 := Lib.hid (ResV.vatH ho)
      clear ho hb
      refine run_call (args := [.agg #[.int .i64 p1k, .slice p1a1 p1n1 p1m1, .slice p1a2 p1n2 p1m2, .slice p1a3 p1n3 p1m3, .slice p1a4 p1n4 p1m4, .slice p1a5 p1n5 p1m5, .int .i64 p1c, .int .i64 p1e]]) (show opAt (opsOf Tryd.f6 38) 3 = some (some 119, .call { callee := .value (.func 9), args := [(.tmp 118)].toArray, argTypes := [26].toArray }, none) from by kernel_rfl) (by kernel_rfl) (by kernel_rfl) (by kernel_rfl) (by kernel_rfl) ?_
      refine (TO1.out _ (below_then B23.out H.out.1)).mono ?_
      rintro en rw2 ⟨yt1, rfl, ho, hb⟩
      refine ⟨_, rfl, heldC_call H.out hb, ?_⟩
      have H := Lib.hid (heldC_call H.out hb)
      have N10 := Lib.hid (N10.out.keep hb)
      have A0 := Lib.hid (A0.out.keep hb)
      have A1 := Lib.hid (ResV.vatH ho)
      clear ho hb
      refine run_call (args := [.agg #[.int .i64 p2k, .slice p2a1 p2n1 p2m1, .slice p2a2 p2n2 p2m2, .slice p2a3 p2n3 p2m3, .slice p2a4 p2n4 p2m4, .slice p2a5 p2n5 p2m5, .int .i64 p2c, .int .i64 p2e]]) (show opAt (opsOf Tryd.f6 38) 5 = some (some 121, .call { callee := .value (.func 9), args := [(.tmp 120)].toArray, argTypes := [26].toArray }, none) from by kernel_rfl) (by kernel_rfl) (by kernel_rfl) (by kernel_rfl) (by kernel_rfl) ?_
      refine (TO2.out _ (below_then B23.out H.out.1)).mono ?_
      rintro en rw3 ⟨yt2, rfl, ho, hb⟩
      refine ⟨_, rfl, heldC_call H.out hb, ?_⟩
      have H := Lib.hid (heldC_call H.out hb)
      have N10 := Lib.hid (N10.out.keep hb)
      have A0 := Lib.hid (A0.out.keep hb)
      have A1 := Lib.hid (A1.out.keep hb)
      have A2 := Lib.hid (ResV.vatH ho)
      clear ho hb
      refine run_call (args := [yt0, yt1, yt2]) (show opAt (opsOf Tryd.f6 38) 6 = some (some 122, .call { callee := .value (.func 27), args := [(.tmp 117), (.tmp 119), (.tmp 121)].toArray, argTypes := [31, 31, 31].toArray }, none) from by kernel_rfl) (by kernel_rfl) (by kernel_rfl) (by kernel_rfl) (by kernel_rfl) ?_
      refine (IM.out _ yt0 yt1 yt2 A0.out.out A1.out.out A2.out.out (below_then B23.out H.out.1)).mono ?_
      rintro en rw4 ⟨yu, rfl, ho, hb⟩
      refine ⟨_, rfl, heldC_call H.out hb, ?_⟩
      obtain ⟨yuk, yua1, yun1, yum1, yua2, yun2, yum2, yua3, yun3, yum3, yua4, yun4, yum4, yua5, yun5, yum5, yuc, yue, rfl⟩ := ho.agg
      (try have UB := Lib.hid (Array.getElem?_eq_some_iff.1 N10.out.out).1)
      have LU := Lib.hid H.out.1.size
      have H := Lib.hid (heldC_call H.out hb)
      have N10 := Lib.hid (N10.out.keep hb)
      have A0 := Lib.hid (A0.out.keep hb)
      have A1 := Lib.hid (A1.out.keep hb)
      have A2 := Lib.hid (A2.out.keep hb)
      have OU := Lib.hid (⟨ho, Nat.le_refl _⟩ : OwnH 1 V _ _ _ _)
      clear ho hb
      refine run_mov (v := .tuple #[.agg #[.int .i64 yuk, .slice yua1 yun1 yum1, .slice yua2 yun2 yum2, .slice yua3 yun3 yum3, .slice yua4 yun4 yum4, .slice yua5 yun5 yum5, .int .i64 yuc, .int .i64 yue], .string sv]) (show opAt (opsOf Tryd.f6 38) 7 = some (some 115, .move (.tmp 122), none) from by kernel_rfl) (by kernel_rfl) (by kernel_rfl) (by kernel_rfl) ?_
      refine run_extract (vs := #[.agg #[.int .i64 yuk, .slice yua1 yun1 yum1, .slice yua2 yun2 yum2, .slice yua3 yun3 yum3, .slice yua4 yun4 yum4, .slice yua5 yun5 yum5, .int .i64 yuc, .int .i64 yue], .string sv]) (v := .agg #[.int .i64 yuk, .slice yua1 yun1 yum1, .slice yua2 yun2 yum2, .slice yua3 yun3 yum3, .slice yua4 yun4 yum4, .slice yua5 yun5 yum5, .int .i64 yuc, .int .i64 yue]) (show opAt (opsOf Tryd.f6 38) 8 = some (some 123, .extract (.tmp 115) 0, none) from by kernel_rfl) (by kernel_rfl) (by kernel_rfl) (by kernel_rfl) (by rfl) ?_
      refine run_extract (vs := #[.agg #[.int .i64 yuk, .slice yua1 yun1 yum1, .slice yua2 yun2 yum2, .slice yua3 yun3 yum3, .slice yua4 yun4 yum4, .slice yua5 yun5 yum5, .int .i64 yuc, .int .i64 yue], .string sv]) (v := .string sv) (show opAt (opsOf Tryd.f6 38) 9 = some (some 124, .extract (.tmp 115) 1, none) from by kernel_rfl) (by kernel_rfl) (by kernel_rfl) (by kernel_rfl) (by rfl) ?_
      refine run_store (w' := World.setRow _ n10 #[.int .i64 yuk, .slice yua1 yun1 yum1, .slice yua2 yun2 yum2, .slice yua3 yun3 yum3, .slice yua4 yun4 yum4, .slice yua5 yun5 yum5, .int .i64 yuc, .int .i64 yue]) (show opAt (opsOf Tryd.f6 38) 11 = some (none, .store 31 (.tmp 18) (.tmp 123), none) from by kernel_rfl) (by kernel_rfl) (by kernel_rfl) (by kernel_rfl) (store_vec8 N10.out.out (by simp [Value.oneCell'])) (⟨below_row H.out.1 G10.out _, fun q hq => row_old (H.out.2 q hq) (by have := F10_0.out; have := F10_1.out; have := F10_2.out; simp only [List.mem_cons, List.not_mem_nil, or_false] at hq; rcases hq with rfl | rfl | rfl <;> (simp only; omega))⟩) ?_
      refine run_asg (v := .string sv) (show opAt (opsOf Tryd.f6 38) 12 = some (some 19, .assign (.tmp 124), none) from by kernel_rfl) (by kernel_rfl) (by kernel_rfl) (by kernel_rfl) ?_
      refine run_done ?_
      simp only [putAll, Act.put, List.setIfInBounds_toArray, List.set_cons_zero, List.set_cons_succ]
      go_wp2_with fail
      go_meet
      exact ⟨_, _, rfl, rfl, ⟨row_set N10.out.out, (OU.out.own.rowO (by first | (left; have := UB.out; omega) | (right; have := NE10.out; omega))).wide LU.out (Nat.le_trans OU.out.hh (row_size _ _ _)), below_row H.out.1 G10.out _, G10.out⟩⟩
  obtain ⟨w21, rfl⟩ : ∃ u : World, u = wc := ⟨_, rfl⟩
  obtain ⟨gh, C, rfl, rfl, hm⟩ := hcut
  obtain ⟨hk, ha1, hn1, hm1, ha2, hn2, hm2, ha3, hn3, hm3, ha4, hn4, hm4, ha5, hn5, hm5, hc, he, rfl⟩ := hm.cells
  clear H
  have b := hm.below
  have Z24 := Lib.hid b.size
  have B24 := Lib.hid (below_then B23.out b)
  have Kp024 := Lib.hid (blk_below b Kp023.out)
  clear Kp023
  have Kp124 := Lib.hid (blk_below b Kp123.out)
  clear Kp123
  have Kp224 := Lib.hid (blk_below b Kp223.out)
  clear Kp223
  have Ku24 := Lib.hid (blk_below b Ku23.out)
  clear Ku23
  have Ou24 := Lib.hid (Ou23.out.below b Ouh23.out)
  have Ouh24 := Lib.hid (Nat.le_trans Ouh23.out b.size)
  clear Ou23 Ouh23
  have Og24 := Lib.hid (Og23.out.below b Ogh23.out)
  have Ogh24 := Lib.hid (Nat.le_trans Ogh23.out b.size)
  clear Og23 Ogh23
  have Kg24 := Lib.hid (blk_below b Kg23.out)
  clear Kg23
  clear b
  have ZSh := Lib.hid (Array.getElem?_eq_some_iff.1 hm.blk).1
  have Kh24 := Lib.hid (hm.blk)
  have Oh24 := Lib.hid (hm.own)
  have Ohh24 := Lib.hid ((Nat.le_refl _) : w21.heap.size ≤ w21.heap.size)
  clear hm
  obtain ⟨hk0, hk1, hk2, hk3, hk4, hk5, hk6, hk7⟩ := vec8 Kh24.out
  obtain ⟨uk0, uk1, uk2, uk3, uk4, uk5, uk6, uk7⟩ := vec8 Ku24.out
  go_wp2_with fail
  with_reducible refine (EQ.out _ _ _ (Oh24.out.vat Ohh24.out) (Ou24.out.vat Ouh24.out)).mono ?_
  rintro e w22 ⟨rfl, b⟩
  try clear hzh
  clear hk0 hk1 hk2 hk3 hk4 hk5 hk6 hk7
  try clear hzu
  clear uk0 uk1 uk2 uk3 uk4 uk5 uk6 uk7
  have Z25 := Lib.hid b.size
  have B25 := Lib.hid (below_then B24.out b)
  have Kp025 := Lib.hid (blk_below b Kp024.out)
  clear Kp024
  have Kp125 := Lib.hid (blk_below b Kp124.out)
  clear Kp124
  have Kp225 := Lib.hid (blk_below b Kp224.out)
  clear Kp224
  have Ku25 := Lib.hid (blk_below b Ku24.out)
  clear Ku24
  have Ou25 := Lib.hid (Ou24.out.below b Ouh24.out)
  have Ouh25 := Lib.hid (Nat.le_trans Ouh24.out b.size)
  clear Ou24 Ouh24
  have Og25 := Lib.hid (Og24.out.below b Ogh24.out)
  have Ogh25 := Lib.hid (Nat.le_trans Ogh24.out b.size)
  clear Og24 Ogh24
  have Kg25 := Lib.hid (blk_below b Kg24.out)
  clear Kg24
  have Kh25 := Lib.hid (blk_below b Kh24.out)
  clear Kh24
  have Oh25 := Lib.hid (Oh24.out.below b Ohh24.out)
  have Ohh25 := Lib.hid (Nat.le_trans Ohh24.out b.size)
  clear Oh24 Ohh24
  clear b
  obtain ⟨gk0, gk1, gk2, gk3, gk4, gk5, gk6, gk7⟩ := vec8 Kg25.out
  go_wp2_with fail
  with_reducible refine (HV.out _ _ _ _ Og25.out Ogh25.out).mono ?_
  rintro e w23 ⟨rfl, b⟩
  try clear hzg
  clear gk0 gk1 gk2 gk3 gk4 gk5 gk6 gk7
  have Z26 := Lib.hid b.size
  have B26 := Lib.hid (below_then B25.out b)
  have Kp026 := Lib.hid (blk_below b Kp025.out)
  clear Kp025
  have Kp126 := Lib.hid (blk_below b Kp125.out)
  clear Kp125
  have Kp226 := Lib.hid (blk_below b Kp225.out)
  clear Kp225
  have Ku26 := Lib.hid (blk_below b Ku25.out)
  clear Ku25
  have Ou26 := Lib.hid (Ou25.out.below b Ouh25.out)
  have Ouh26 := Lib.hid (Nat.le_trans Ouh25.out b.size)
  clear Ou25 Ouh25
  have Og26 := Lib.hid (Og25.out.below b Ogh25.out)
  have Ogh26 := Lib.hid (Nat.le_trans Ogh25.out b.size)
  clear Og25 Ogh25
  have Kg26 := Lib.hid (blk_below b Kg25.out)
  clear Kg25
  have Kh26 := Lib.hid (blk_below b Kh25.out)
  clear Kh25
  have Oh26 := Lib.hid (Oh25.out.below b Ohh25.out)
  have Ohh26 := Lib.hid (Nat.le_trans Ohh25.out b.size)
  clear Oh25 Ohh25
  clear b
  go_wp2
  go_ret
  exact ⟨rfl, B26.out⟩

set_option maxRecDepth 100000 in
theorem contract (H : Type) (enc : TypeId × Value → H) (W : World) (base : Nat) (args : Array Value) (ds gs : List (DataW H)) (before : List MemPlace)
    (hval : ∀ (j : Nat) t v, Tryd.f6.params[j]? = some t → args[j]? = some v → Value.okWide Tryd.prog W .any base t v)
    (hW : DataW.Whole enc Tryd.prog Tryd.f6.params.toList Rows.fnExactChooseVectorSpec.vars false W args.toList ds gs before) (hL : laidMetH Tryd.prog Rows.fnExactChooseVectorRow.laid W) (hsh : W.ShapedOpen Tryd.prog) :
    Calls Tryd.prog 6 args W fun e W' => ∃ v, e = .returned v ∧ Rows.fnExactChooseVectorSpec.post enc Tryd.prog Tryd.f6 false true false false W args v W' := by
  have hW' := hW
  obtain ⟨p, q, hA0, hV, rfl, hfz, hnd⟩ := hW
  have hA : DataW.TrodAll enc Tryd.prog W 0 (fun _ => true) true Tryd.f6.params.toList args.toList ds p := hA0
  rw [Tryd.params6] at hA hval
  obtain ⟨v0, vs0, d0, ds0, p0, q0, hargs0, rfl, rfl, h0, r0⟩ := trodAll_cons hA
  obtain ⟨v1, vs1, d1, ds1, p1, q1, hargs1, rfl, rfl, h1, r1⟩ := trodAll_cons r0
  obtain ⟨v2, vs2, d2, ds2, p2, q2, hargs2, rfl, rfl, h2, r2⟩ := trodAll_cons r1
  obtain ⟨hnil, rfl, rfl⟩ := trodAll_nil r2
  have eargs : args.toList = [v0, v1, v2] := by rw [hargs0, hargs1, hargs2, hnil]
  obtain rfl : args = #[v0, v1, v2] := Array.toList_inj.1 eargs
  obtain ⟨rfl, rfl⟩ := trodVars_none hV
  have k0 := h0
  have lt0 : ∀ x ∈ p0, x.block < W.heap.size := by obtain ⟨m, hm⟩ := k0; exact DataW.trod_lt m _ _ _ hm
  have k1 := h1
  have lt1 : ∀ x ∈ p1, x.block < W.heap.size := by obtain ⟨m, hm⟩ := k1; exact DataW.trod_lt m _ _ _ hm
  have k2 := h2
  have lt2 : ∀ x ∈ p2, x.block < W.heap.size := by obtain ⟨m, hm⟩ := k2; exact DataW.trod_lt m _ _ _ hm
  clear hA0 eargs hargs0 hargs1 hargs2
  obtain ⟨d0, x0, hv0, hf0⟩ := vec_in (hval 0 26 v0 rfl rfl) h0
  obtain ⟨d1, x1, hv1, hf1⟩ := vec_in (hval 1 26 v1 rfl rfl) h1
  obtain ⟨d2, x2, hv2, hf2⟩ := vec_in (hval 2 26 v2 rfl rfl) h2
  have hl : laidMet Tryd.prog Rows.fnExactChooseVectorRow.laid W := (MakeChecks.laidMetH_plain Tryd.prog Rows.fnExactChooseVectorRow.laid W (by kernel_rfl)) ▸ hL
  refine (walk x0 d0 v0 x1 d1 v1 x2 d2 v2 W hv0 hf0 hv1 hf1 hv2 hf2 (powOf hl) hsh).mono fun e W' ⟨he, bel⟩ => ?_
  subst he
  have kp0 := Below.trod laidOut (show Tryd.prog.readableRec 26 = true by kernel_rfl) (of_decide_eq_true (by kernel_rfl)) k0 bel lt0
  have kp1 := Below.trod laidOut (show Tryd.prog.readableRec 26 = true by kernel_rfl) (of_decide_eq_true (by kernel_rfl)) k1 bel lt1
  have kp2 := Below.trod laidOut (show Tryd.prog.readableRec 26 = true by kernel_rfl) (of_decide_eq_true (by kernel_rfl)) k2 bel lt2
  exact ⟨_, rfl, _, _, _, [], _, [], hW', trodAll_mk1 (shut_bool Tryd.underlying4 _), (trodAll_cons_mk kp0 (trodAll_cons_mk kp1 (trodAll_cons_mk kp2 trodAll_mk0))), rfl, bel.frame _, fun h => by cases h⟩

/-- The heap that the program's own initialisers leave meets the list. -/
theorem door_met (os : Os) (args : Array Value) : laidMetH Tryd.prog Rows.fnExactChooseVectorRow.laid ((World.doorLaid Tryd.prog 65 os).forCall (fun _ _ => 0) ⟨#[], args, []⟩).memory :=
  laidMetH_of_parts3 (fuel := 8) (laidMet_of_run' 8 (by kernel_rfl) (by kernel_rfl)) (by kernel_rfl) (by kernel_rfl)
theorem reads (os : Os) {H : Type} (enc : TypeId × Value → H) : ∃ places, DataW.whole enc Tryd.prog ((World.doorLaid Tryd.prog 65 os).forCall (fun _ _ => 0) ⟨#[], #[.agg #[.int .i64 0, .slice none 0 0, .slice none 0 0, .slice none 0 0, .slice none 0 0, .slice none 0 0, .int .i64 0, .int .i64 0], .agg #[.int .i64 0, .slice none 0 0, .slice none 0 0, .slice none 0 0, .slice none 0 0, .slice none 0 0, .int .i64 0, .int .i64 0], .agg #[.int .i64 0, .slice none 0 0, .slice none 0 0, .slice none 0 0, .slice none 0 0, .slice none 0 0, .int .i64 0, .int .i64 0]], []⟩).memory Tryd.f6.params.toList Rows.fnExactChooseVectorSpec.vars false #[.agg #[.int .i64 0, .slice none 0 0, .slice none 0 0, .slice none 0 0, .slice none 0 0, .slice none 0 0, .int .i64 0, .int .i64 0], .agg #[.int .i64 0, .slice none 0 0, .slice none 0 0, .slice none 0 0, .slice none 0 0, .slice none 0 0, .int .i64 0, .int .i64 0], .agg #[.int .i64 0, .slice none 0 0, .slice none 0 0, .slice none 0 0, .slice none 0 0, .slice none 0 0, .int .i64 0, .int .i64 0]].toList 8 = some ([.agg [.lit (.int .i64 0), .nil, .nil, .nil, .nil, .nil, .lit (.int .i64 0), .lit (.int .i64 0)], .agg [.lit (.int .i64 0), .nil, .nil, .nil, .nil, .nil, .lit (.int .i64 0), .lit (.int .i64 0)], .agg [.lit (.int .i64 0), .nil, .nil, .nil, .nil, .nil, .lit (.int .i64 0), .lit (.int .i64 0)]], [], places) :=
  ⟨[], by kernel_rfl⟩

set_option maxRecDepth 100000 in
theorem lifted (os : Os) (started : os.Started) (H : Type) (enc : TypeId × Value → H) (F : Stop.Interp) :
    ReturnsInHanded {} Tryd.checked os 6 .any ((OpenSpec.ofChange Rows.fnExactChooseVectorSpec).preRow enc Tryd.prog Tryd.f6 Rows.fnExactChooseVectorRow.domain false Rows.fnExactChooseVectorRow.laid) (((OpenSpec.ofChange Rows.fnExactChooseVectorSpec).at F).post enc Tryd.prog Tryd.f6 false true false false) := by
  obtain ⟨places, hx⟩ := reads os enc
  refine returnsInHanded_of_row (C := Tryd.checked) (s := OpenSpec.ofChange Rows.fnExactChooseVectorSpec) own started (by kernel_rfl) Tryd.func6
    ⟨World.doorLaid Tryd.prog 65 os, fun _ _ => 0, ⟨#[], #[.agg #[.int .i64 0, .slice none 0 0, .slice none 0 0, .slice none 0 0, .slice none 0 0, .slice none 0 0, .int .i64 0, .int .i64 0], .agg #[.int .i64 0, .slice none 0 0, .slice none 0 0, .slice none 0 0, .slice none 0 0, .slice none 0 0, .int .i64 0, .int .i64 0], .agg #[.int .i64 0, .slice none 0 0, .slice none 0 0, .slice none 0 0, .slice none 0 0, .slice none 0 0, .int .i64 0, .int .i64 0]], []⟩, rfl, World.shaped_of_RefB (by kernel_rfl) (by kernel_rfl), rfl, (Input.okWide_of_okWideB (by kernel_rfl)).2,
      OpenSpec.preRow_of_cond 8 hx (by kernel_rfl) (fun k hk => by cases hk) (by kernel_rfl) (door_met os _), by simp [Assume.holds]⟩ ?_
  intro W base args ds gs before hval hW _ _ _ hL hsh _
  exact contract H enc W base args ds gs before hval hW hL hsh

theorem said : Rows.FnExactChooseVectorSaid :=
  OpenClaim.holds_of_cond 6 Tryd.f6 rfl rfl rfl rfl rfl rfl rfl ⟨rfl, rfl, rfl, rfl, rfl⟩ rfl rfl rfl rfl rfl (by kernel_rfl) Tryd.func6 (by kernel_rfl)
    (of_decide_eq_true (by kernel_rfl)) (by unfold Func.isWrapper; first | (rw [if_pos (by decide +kernel)]; kernel_rfl) | (rw [if_neg (by decide +kernel)]; exact ⟨rfl, rfl⟩))
    (fun os started H enc _ F => by rw [OpenClaim.pre_eq_preRow]; exact lifted os started H enc F)

theorem plain (f : FuncId) (fn : Func) (hf : Tryd.pinned.checked.prog.funcNamed "loop.example/g03406/laws.FnExactChooseVector" = some f) (hfn : Tryd.pinned.checked.prog.funcs[f]? = some fn) :
    false = Tryd.pinned.checked.prog.looks [] ∧ ∀ (j : Nat) t, fn.params[j]? = some t → Tryd.pinned.checked.prog.wantsStandIn t = false := by
  obtain rfl : f = 6 := Option.some.inj ((show Tryd.prog.funcNamed "loop.example/g03406/laws.FnExactChooseVector" = some 6 by kernel_rfl).symm.trans hf) |>.symm
  obtain rfl : fn = Tryd.f6 := (Option.some.inj (Tryd.func6.symm.trans hfn)).symm
  refine ⟨by kernel_rfl, fun j t ht => ?_⟩
  rw [Tryd.params6] at ht
  have hm := Array.mem_of_getElem? ht
  simp at hm
  rcases hm with rfl
  · exact (show Tryd.prog.wantsStandIn 26 = false by kernel_rfl)

theorem card : Rows.FnExactChooseVectorCardSaid :=
  Claim7.holds_tied_plain_at .later [] _ _ _ _ said (fun _ h => by cases h) (by kernel_rfl) (fun _ h => by cases h) fnExactChooseVector_row_tie rfl ⟨rfl, rfl⟩ (by kernel_rfl) rfl plain (by kernel_rfl)
end Go.Proofs.YtjpdnabfpiengaaDoor.fnExactChooseVector
