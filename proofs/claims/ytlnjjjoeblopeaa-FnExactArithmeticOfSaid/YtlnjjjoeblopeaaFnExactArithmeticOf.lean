/- Called with any arguments (strings, vectors, vectors), the law FnExactArithmeticOf returns true and leaves everything as it was. No condition. -/
import Derived.Test.YtlnjjjoeblopeaaRows
import Derived.Test.YtlnjjjoeblopeaaMa3
import Derived.Test.YtlnjjjoeblopeaaVecIn
import Derived.WalkKit
import Derived.ProofKit
import Derived.OpenShut
import Derived.ShutString
import Derived.ChangeOld
import Derived.Carry
import Derived.Below
namespace Go.Proofs.Ytlnjjjoeblopeaa.fnExactArithmeticOf
open Go.ChangeShapes Go.WideShapes Go.ChangeAt Go.RowKit
open Go.ChangeMaps (open_string shut_string)
set_option linter.unusedVariables false

theorem laidOut : laidOutB Try.prog = true := by kernel_rfl
theorem own : ownKnob Try.prog.godebug = none := by kernel_rfl

set_option maxHeartbeats 4000000 in
set_option maxRecDepth 100000 in
theorem walk (a0 : ByteArray) (i0 : a0.size ≤ maxLen) (x1 : Vec) (d1 : Nat) (y1 : Value) (x2 : Vec) (d2 : Nat) (y2 : Value) (w : World) (hv1 : VecAt 0 w.heap.size w d1 x1 y1) (hf1 : Fits d1 x1) (hv2 : VecAt 0 w.heap.size w d2 x2 y2) (hf2 : Fits d2 x2) :
    Calls Try.prog 5 #[.string a0, y1, y2] w fun e w' => e = .returned (.bool true) ∧ Below w.heap.size w w' := by
  by_cases hstr : 1048576 < a0.size
  · obtain ⟨p1k, p1a1, p1n1, p1m1, p1a2, p1n2, p1m2, p1a3, p1n3, p1m3, p1a4, p1n4, p1m4, p1a5, p1n5, p1m5, p1c, p1e, rfl⟩ := hv1.agg
    obtain ⟨p2k, p2a1, p2n1, p2m1, p2a2, p2n2, p2m2, p2a3, p2n3, p2m3, p2a4, p2n4, p2m4, p2a5, p2n5, p2m5, p2c, p2e, rfl⟩ := hv2.agg
    clear hv1 hv2 hf1 hf2
    go_enter Try.func5, Try.ntmps5
    go_wp2
    go_ret
    exact ⟨rfl, below2 w _ _⟩
  have SZ1 := Lib.hid (fun (w1 : World) (hb : Below w.heap.size w w1) => (szAll d1).out x1 y1 1048576 0 w.heap.size w1 (hv1.below hb (Nat.le_refl _)) hb.size hf1 (by omega) (by omega))
  by_cases hb1 : 1048576 < wV d1 x1
  · rw [szL_no (show (1048576 : Int) < (wV d1 x1 : Int) by omega)] at SZ1
    clear hb1
    obtain ⟨p1k, p1a1, p1n1, p1m1, p1a2, p1n2, p1m2, p1a3, p1n3, p1m3, p1a4, p1n4, p1m4, p1a5, p1n5, p1m5, p1c, p1e, rfl⟩ := hv1.agg
    obtain ⟨p2k, p2a1, p2n1, p2m1, p2a2, p2n2, p2m2, p2a3, p2n3, p2m3, p2a4, p2n4, p2m4, p2a5, p2n5, p2m5, p2c, p2e, rfl⟩ := hv2.agg
    clear hv1 hv2 hf1 hf2
    go_enter Try.func5, Try.ntmps5
    go_wp2_with fail
    with_reducible refine (SZ1.out _ (below2 w _ _)).mono ?_
    rintro e w1 ⟨rfl, b⟩
    have B1 := Lib.hid (below_then (below2 w _ _) b)
    clear b
    go_wp2
    go_ret
    exact ⟨rfl, B1.out⟩
  rw [szL_yes (show (wV d1 x1 : Int) ≤ 1048576 by omega)] at SZ1
  have SZ2 := Lib.hid (fun (w1 : World) (hb : Below w.heap.size w w1) => (szAll d2).out x2 y2 (1048576 - (wV d1 x1 : Int)) 0 w.heap.size w1 (hv2.below hb (Nat.le_refl _)) hb.size hf2 (by omega) (by omega))
  by_cases hb2 : 1048576 < wV d1 x1 + wV d2 x2
  · rw [szL_no (show (1048576 - (wV d1 x1 : Int)) < (wV d2 x2 : Int) by omega)] at SZ2
    obtain ⟨q1, hq1⟩ : ∃ q, wV d1 x1 = q := ⟨_, rfl⟩
    rw [hq1] at SZ1 SZ2 hb1
    clear hb2 hq1
    obtain ⟨p1k, p1a1, p1n1, p1m1, p1a2, p1n2, p1m2, p1a3, p1n3, p1m3, p1a4, p1n4, p1m4, p1a5, p1n5, p1m5, p1c, p1e, rfl⟩ := hv1.agg
    obtain ⟨p2k, p2a1, p2n1, p2m1, p2a2, p2n2, p2m2, p2a3, p2n3, p2m3, p2a4, p2n4, p2m4, p2a5, p2n5, p2m5, p2c, p2e, rfl⟩ := hv2.agg
    clear hv1 hv2 hf1 hf2
    have hz : (w.alloc (.cells #[.int .i64 p1k, .slice p1a1 p1n1 p1m1, .slice p1a2 p1n2 p1m2, .slice p1a3 p1n3 p1m3, .slice p1a4 p1n4 p1m4, .slice p1a5 p1n5 p1m5, .int .i64 p1c, .int .i64 p1e] 26)).heap.size = w.heap.size + 1 := by simp
    have KB := Lib.hid (show ((w.alloc (.cells #[.int .i64 p1k, .slice p1a1 p1n1 p1m1, .slice p1a2 p1n2 p1m2, .slice p1a3 p1n3 p1m3, .slice p1a4 p1n4 p1m4, .slice p1a5 p1n5 p1m5, .int .i64 p1c, .int .i64 p1e] 26)).alloc (.cells #[.int .i64 p2k, .slice p2a1 p2n1 p2m1, .slice p2a2 p2n2 p2m2, .slice p2a3 p2n3 p2m3, .slice p2a4 p2n4 p2m4, .slice p2a5 p2n5 p2m5, .int .i64 p2c, .int .i64 p2e] 26)).heap[w.heap.size + 1]? = some (.cells #[.int .i64 p2k, .slice p2a1 p2n1 p2m1, .slice p2a2 p2n2 p2m2, .slice p2a3 p2n3 p2m3, .slice p2a4 p2n4 p2m4, .slice p2a5 p2n5 p2m5, .int .i64 p2c, .int .i64 p2e] 26 (0, 0)) from blk_new _ _ hz.symm)
    clear hz
    go_enter Try.func5, Try.ntmps5
    go_wp2_with fail
    with_reducible refine (SZ1.out _ (below2 w _ _)).mono ?_
    rintro e w1 ⟨rfl, b⟩
    have B1 := Lib.hid (below_then (below2 w _ _) b)
    obtain ⟨k0, k1, k2, k3, k4, k5, k6, k7⟩ := vec8 (blk_below b KB.out)
    clear b KB
    go_wp2_with fail
    with_reducible refine (SZ2.out _ B1.out).mono ?_
    rintro e w2 ⟨rfl, b⟩
    have B2 := Lib.hid (below_then B1.out b)
    clear b
    go_wp2
    go_ret
    exact ⟨rfl, B2.out⟩
  rw [szL_yes (show (wV d2 x2 : Int) ≤ 1048576 - (wV d1 x1 : Int) by omega)] at SZ2
  have hsm1 := small_of d1 x1 hf1 (by omega)
  have TO1 := Lib.hid (fun (w1 : World) (hb : Below w.heap.size w w1) => toVecR d1 x1 y1 0 w.heap.size w1 (hv1.below hb (Nat.le_refl _)) hb.size hsm1)
  have QX1 := Lib.hid (fun (w1 : World) (x y : Value) (h : VecAt 0 w1.heap.size w1 d1 x1 x) (k : VecAt 0 w1.heap.size w1 d1 x1 y) => (eqAll d1).out x1 x y 0 w1.heap.size 0 w1.heap.size w1 h (Nat.le_refl _) k (Nat.le_refl _) hf1)
  have hsm2 := small_of d2 x2 hf2 (by omega)
  have TO2 := Lib.hid (fun (w1 : World) (hb : Below w.heap.size w w1) => toVecR d2 x2 y2 0 w.heap.size w1 (hv2.below hb (Nat.le_refl _)) hb.size hsm2)
  have QX2 := Lib.hid (fun (w1 : World) (x y : Value) (h : VecAt 0 w1.heap.size w1 d2 x2 x) (k : VecAt 0 w1.heap.size w1 d2 x2 y) => (eqAll d2).out x2 x y 0 w1.heap.size 0 w1.heap.size w1 h (Nat.le_refl _) k (Nat.le_refl _) hf2)
  have hcm := cntM_le d1 x1
  have hcm' := cntM_le d2 x2
  have MX1 := Lib.hid (fun (w1 : World) (y : Value) (lo hi : Nat) (h : Own d1 x1 y lo hi w1) (hh : hi ≤ w1.heap.size) => markOwnX d1 x1 y lo hi w1 h hh hsm1 (by omega))
  have MX2 := Lib.hid (fun (w1 : World) (y : Value) (lo hi : Nat) (h : Own d2 x2 y lo hi w1) (hh : hi ≤ w1.heap.size) => markOwnK d2 x2 y (1 + cntM d1 x1) lo hi w1 h hh hsm2 (by omega) (by omega))
  have SP := Lib.hid (fun (w1 : World) (y z : Value) (h : VecAt 0 w1.heap.size w1 d1 x1 y) (k : VecAt 0 w1.heap.size w1 d2 x2 z) => specArithmeticOf d1 d2 x1 x2 a0 y z 0 w1.heap.size w1 h k (Nat.le_refl _) hsm1 hsm2)
  have IM := Lib.hid (fun (w1 : World) (y z : Value) (h : VecAt 0 w1.heap.size w1 d1 x1 y) (k : VecAt 0 w1.heap.size w1 d2 x2 z) => implArithmeticOf d1 d2 x1 x2 a0 y z 0 w1.heap.size w1 h k (Nat.le_refl _) hsm1 hsm2)
  have PV := ari_plain (idxA a0) hsm1 hsm2
  have HS0 := PV.small
  have HF0 := PV.fits
  have HC0 := PV.cnt
  obtain ⟨V, hV⟩ : ∃ V, ariV (idxA a0) x1 x2 = V := ⟨_, rfl⟩
  obtain ⟨sv, hs⟩ : ∃ s, ariS (idxA a0) x1 x2 = s := ⟨_, rfl⟩
  rw [hV] at SP IM HS0 HF0 HC0
  rw [hs] at SP IM
  clear hV hs PV hsm1 hsm2 hcm hcm'
  obtain ⟨c1, hc1⟩ : ∃ c, 1 + cntM d1 x1 = c := ⟨_, rfl⟩
  rw [hc1] at MX1 MX2
  obtain ⟨c2, hc2⟩ : ∃ c, c1 + cntM d2 x2 = c := ⟨_, rfl⟩
  rw [hc2] at MX2
  clear hc1 hc2
  obtain ⟨q1, hq1⟩ : ∃ q, wV d1 x1 = q := ⟨_, rfl⟩
  obtain ⟨q2, hq2⟩ : ∃ q, wV d2 x2 = q := ⟨_, rfl⟩
  rw [hq1] at SZ1 SZ2 hb1 hb2
  rw [hq2] at SZ2 hb2
  clear hq1 hq2
  have SMV := Lib.hid (HS0)
  have FTV := Lib.hid (HF0)
  have CMV := Lib.hid (HC0)
  have EQ := Lib.hid (fun (w1 : World) (x y : Value) (h : VecAt 0 w1.heap.size w1 1 V x) (k : VecAt 0 w1.heap.size w1 1 V y) => (eqAll 1).out V x y 0 w1.heap.size 0 w1.heap.size w1 h (Nat.le_refl _) k (Nat.le_refl _) FTV.out)
  have MV := Lib.hid (fun (w1 : World) (y : Value) (lo hi : Nat) (h : Own 1 V y lo hi w1) (hh : hi ≤ w1.heap.size) => markOwn 1 V y lo hi w1 h hh SMV.out CMV.out)
  have HV := Lib.hid (fun (w1 : World) (y : Value) (lo hi : Nat) (h : Own 1 (markV 1 1 V) y lo hi w1) (hh : hi ≤ w1.heap.size) => heldOwn 1 V y lo hi w1 h hh SMV.out CMV.out)
  clear SMV FTV CMV
  obtain ⟨cm, hcm'⟩ : ∃ c, 1 + cntM 1 V = c := ⟨_, rfl⟩
  rw [hcm'] at MV HV
  clear hcm'
  clear HS0 HF0 HC0 hf1 hf2
  obtain ⟨p1k, p1a1, p1n1, p1m1, p1a2, p1n2, p1m2, p1a3, p1n3, p1m3, p1a4, p1n4, p1m4, p1a5, p1n5, p1m5, p1c, p1e, rfl⟩ := hv1.agg
  obtain ⟨p2k, p2a1, p2n1, p2m1, p2a2, p2n2, p2m2, p2a3, p2n3, p2m3, p2a4, p2n4, p2m4, p2a5, p2n5, p2m5, p2c, p2e, rfl⟩ := hv2.agg
  clear hv1 hv2
  go_enter Try.func5, Try.ntmps5
  go_wp2_with fail
  obtain ⟨w1, hW⟩ : ∃ W, (w.alloc (.cells #[.int .i64 p1k, .slice p1a1 p1n1 p1m1, .slice p1a2 p1n2 p1m2, .slice p1a3 p1n3 p1m3, .slice p1a4 p1n4 p1m4, .slice p1a5 p1n5 p1m5, .int .i64 p1c, .int .i64 p1e] 26)).alloc (.cells #[.int .i64 p2k, .slice p2a1 p2n1 p2m1, .slice p2a2 p2n2 p2m2, .slice p2a3 p2n3 p2m3, .slice p2a4 p2n4 p2m4, .slice p2a5 p2n5 p2m5, .int .i64 p2c, .int .i64 p2e] 26) = W := ⟨_, rfl⟩
  have hz : (w.alloc (.cells #[.int .i64 p1k, .slice p1a1 p1n1 p1m1, .slice p1a2 p1n2 p1m2, .slice p1a3 p1n3 p1m3, .slice p1a4 p1n4 p1m4, .slice p1a5 p1n5 p1m5, .int .i64 p1c, .int .i64 p1e] 26)).heap.size = w.heap.size + 1 := by simp
  have b : Below w.heap.size w w1 := hW ▸ below2 w _ _
  have kb1 : w1.heap[w.heap.size]? = some (.cells #[.int .i64 p1k, .slice p1a1 p1n1 p1m1, .slice p1a2 p1n2 p1m2, .slice p1a3 p1n3 p1m3, .slice p1a4 p1n4 p1m4, .slice p1a5 p1n5 p1m5, .int .i64 p1c, .int .i64 p1e] 26 (0, 0)) := by rw [← hW]; exact blk_old (blk_new w _ rfl)
  have kb2 : w1.heap[w.heap.size + 1]? = some (.cells #[.int .i64 p2k, .slice p2a1 p2n1 p2m1, .slice p2a2 p2n2 p2m2, .slice p2a3 p2n3 p2m3, .slice p2a4 p2n4 p2m4, .slice p2a5 p2n5 p2m5, .int .i64 p2c, .int .i64 p2e] 26 (0, 0)) := by rw [← hW]; exact blk_new _ _ hz.symm
  rw [hW]
  clear hW hz
  have Z1 := Lib.hid b.size
  have B1 := Lib.hid (below_then (Below.refl _ _) b)
  clear b
  have ZSp1 := Lib.hid (Array.getElem?_eq_some_iff.1 kb1).1
  have Kp11 := Lib.hid (kb1)
  have ZSp2 := Lib.hid (Array.getElem?_eq_some_iff.1 kb2).1
  have Kp21 := Lib.hid (kb2)
  clear kb1 kb2
  with_reducible refine (SZ1.out _ B1.out).mono ?_
  rintro e w2 ⟨rfl, b⟩
  have Z2 := Lib.hid b.size
  have B2 := Lib.hid (below_then B1.out b)
  have Kp12 := Lib.hid (blk_below b Kp11.out)
  clear Kp11
  have Kp22 := Lib.hid (blk_below b Kp21.out)
  clear Kp21
  clear b
  obtain ⟨p2k0, p2k1, p2k2, p2k3, p2k4, p2k5, p2k6, p2k7⟩ := vec8 Kp22.out
  go_wp2_with fail
  with_reducible refine (SZ2.out _ B2.out).mono ?_
  rintro e w3 ⟨rfl, b⟩
  try clear hzp2
  clear p2k0 p2k1 p2k2 p2k3 p2k4 p2k5 p2k6 p2k7
  have Z3 := Lib.hid b.size
  have B3 := Lib.hid (below_then B2.out b)
  have Kp13 := Lib.hid (blk_below b Kp12.out)
  clear Kp12
  have Kp23 := Lib.hid (blk_below b Kp22.out)
  clear Kp22
  clear b
  go_upto_region 10 with (fail)
  have H := Lib.hid (show HeldC w3 w3 ([(w.heap.size, 26, #[.int .i64 p1k, .slice p1a1 p1n1 p1m1, .slice p1a2 p1n2 p1m2, .slice p1a3 p1n3 p1m3, .slice p1a4 p1n4 p1m4, .slice p1a5 p1n5 p1m5, .int .i64 p1c, .int .i64 p1e]), ((w.heap.size + 1), 26, #[.int .i64 p2k, .slice p2a1 p2n1 p2m1, .slice p2a2 p2n2 p2m2, .slice p2a3 p2n3 p2m3, .slice p2a4 p2n4 p2m4, .slice p2a5 p2n5 p2m5, .int .i64 p2c, .int .i64 p2e])]) from heldC_cons (heldC_cons ⟨Below.refl _ _, (fun _ h => by cases h)⟩ Kp23.out) Kp13.out)
  go_cut [8, 9] from 32 to 40 (fun pu su wx => ∃ (gu : Nat) (C : Array Value), pu = .pointer (some ⟨gu, 0, none⟩) ∧ su = .string sv ∧ MadeU V w3 wx gu C)
  case first =>
    refine run_regionT (ops := (opsOf Try.f5 10)) (S := fun w' => HeldC w3 w' ([(w.heap.size, 26, #[.int .i64 p1k, .slice p1a1 p1n1 p1m1, .slice p1a2 p1n2 p1m2, .slice p1a3 p1n3 p1m3, .slice p1a4 p1n4 p1m4, .slice p1a5 p1n5 p1m5, .int .i64 p1c, .int .i64 p1e]), ((w.heap.size + 1), 26, #[.int .i64 p2k, .slice p2a1 p2n1 p2m1, .slice p2a2 p2n2 p2m2, .slice p2a3 p2n3 p2m3, .slice p2a4 p2n4 p2m4, .slice p2a5 p2n5 p2m5, .int .i64 p2c, .int .i64 p2e])])) (.fork [(0, true), (1, true), (3, true)] 2 (.fork [] 4 (.fork [] 5 (.leaf [(6, true), (7, true), (8, true), (9, false), (10, false), (11, true)]) 9 (.leaf [(5, false), (6, true), (7, true), (8, true), (10, false), (11, true)])) 9 (.leaf [(4, false), (5, false), (6, true), (7, true), (8, true), (10, false), (11, true)])) 9 (.leaf [(2, false), (4, false), (5, false), (6, true), (7, true), (8, true), (10, false), (11, true)])) (by kernel_rfl) (by kernel_rfl) (by kernel_rfl) (by kernel_rfl) (by kernel_rfl) (fun _ _ _ _ _ h => h) (heldC_drew H.out) ?_
    have H := Lib.hid (heldC_drew H.out)
    refine run_mov (v := .string a0) (show opAt (opsOf Try.f5 10) 0 = some (some 33, .move (.tmp 0), none) from by kernel_rfl) (by kernel_rfl) (by kernel_rfl) (by kernel_rfl) ?_
    refine runC_lvec (b := w.heap.size) (show opAt (opsOf Try.f5 10) 1 = some (some 34, .load 26 (.tmp 4), none) from by kernel_rfl) (by kernel_rfl) (by kernel_rfl) (by kernel_rfl) (List.Mem.head _) ?_
    refine runC_lvec (b := (w.heap.size + 1)) (show opAt (opsOf Try.f5 10) 3 = some (some 36, .load 26 (.tmp 5), none) from by kernel_rfl) (by kernel_rfl) (by kernel_rfl) (by kernel_rfl) (List.Mem.tail _ (List.Mem.head _)) ?_
    refine run_fork H.out (by kernel_rfl) (by kernel_rfl) ?_ ?_
    · refine run_call (args := [.agg #[.int .i64 p1k, .slice p1a1 p1n1 p1m1, .slice p1a2 p1n2 p1m2, .slice p1a3 p1n3 p1m3, .slice p1a4 p1n4 p1m4, .slice p1a5 p1n5 p1m5, .int .i64 p1c, .int .i64 p1e]]) (show opAt (opsOf Try.f5 10) 2 = some (some 35, .call { callee := .value (.func 16), args := [(.tmp 34)].toArray, argTypes := [26].toArray }, none) from by kernel_rfl) (by kernel_rfl) (by kernel_rfl) (by kernel_rfl) (by kernel_rfl) ?_
      refine (TO1.out _ (below_then B3.out H.out.1)).mono ?_
      rintro en rw1 ⟨yt1, rfl, ho, hb⟩
      refine ⟨_, rfl, heldC_call H.out hb, ?_⟩
      have H := Lib.hid (heldC_call H.out hb)
      have A1 := Lib.hid (ResV.vatH ho)
      clear ho hb
      refine run_fork H.out (by kernel_rfl) (by kernel_rfl) ?_ ?_
      · refine run_call (args := [.agg #[.int .i64 p2k, .slice p2a1 p2n1 p2m1, .slice p2a2 p2n2 p2m2, .slice p2a3 p2n3 p2m3, .slice p2a4 p2n4 p2m4, .slice p2a5 p2n5 p2m5, .int .i64 p2c, .int .i64 p2e]]) (show opAt (opsOf Try.f5 10) 4 = some (some 37, .call { callee := .value (.func 16), args := [(.tmp 36)].toArray, argTypes := [26].toArray }, none) from by kernel_rfl) (by kernel_rfl) (by kernel_rfl) (by kernel_rfl) (by kernel_rfl) ?_
        refine (TO2.out _ (below_then B3.out H.out.1)).mono ?_
        rintro en rw2 ⟨yt2, rfl, ho, hb⟩
        refine ⟨_, rfl, heldC_call H.out hb, ?_⟩
        have H := Lib.hid (heldC_call H.out hb)
        have A1 := Lib.hid (A1.out.keep hb)
        have A2 := Lib.hid (ResV.vatH ho)
        clear ho hb
        refine run_fork H.out (by kernel_rfl) (by kernel_rfl) ?_ ?_
        · refine run_call (args := [.string a0, yt1, yt2]) (show opAt (opsOf Try.f5 10) 5 = some (some 38, .call { callee := .value (.func 23), args := [(.tmp 33), (.tmp 35), (.tmp 37)].toArray, argTypes := [9, 31, 31].toArray }, none) from by kernel_rfl) (by kernel_rfl) (by kernel_rfl) (by kernel_rfl) (by kernel_rfl) ?_
          refine (SP.out _ yt1 yt2 A1.out.out A2.out.out).mono ?_
          rintro en rw3 ⟨yu, rfl, ho, hb⟩
          refine ⟨_, rfl, heldC_call H.out hb, ?_⟩
          obtain ⟨yuk, yua1, yun1, yum1, yua2, yun2, yum2, yua3, yun3, yum3, yua4, yun4, yum4, yua5, yun5, yum5, yuc, yue, rfl⟩ := ho.agg
          (try have UB := Lib.hid (Array.getElem?_eq_some_iff.1 N9.out.out).1)
          have LU := Lib.hid H.out.1.size
          have H := Lib.hid (heldC_call H.out hb)
          have A1 := Lib.hid (A1.out.keep hb)
          have A2 := Lib.hid (A2.out.keep hb)
          have OU := Lib.hid (⟨ho, Nat.le_refl _⟩ : OwnH 1 V _ _ _ _)
          clear ho hb
          refine run_mov (v := .tuple #[.agg #[.int .i64 yuk, .slice yua1 yun1 yum1, .slice yua2 yun2 yum2, .slice yua3 yun3 yum3, .slice yua4 yun4 yum4, .slice yua5 yun5 yum5, .int .i64 yuc, .int .i64 yue], .string sv]) (show opAt (opsOf Try.f5 10) 6 = some (some 32, .move (.tmp 38), none) from by kernel_rfl) (by kernel_rfl) (by kernel_rfl) (by kernel_rfl) ?_
          refine run_extract (vs := #[.agg #[.int .i64 yuk, .slice yua1 yun1 yum1, .slice yua2 yun2 yum2, .slice yua3 yun3 yum3, .slice yua4 yun4 yum4, .slice yua5 yun5 yum5, .int .i64 yuc, .int .i64 yue], .string sv]) (v := .agg #[.int .i64 yuk, .slice yua1 yun1 yum1, .slice yua2 yun2 yum2, .slice yua3 yun3 yum3, .slice yua4 yun4 yum4, .slice yua5 yun5 yum5, .int .i64 yuc, .int .i64 yue]) (show opAt (opsOf Try.f5 10) 7 = some (some 39, .extract (.tmp 32) 0, none) from by kernel_rfl) (by kernel_rfl) (by kernel_rfl) (by kernel_rfl) (by rfl) ?_
          refine run_extract (vs := #[.agg #[.int .i64 yuk, .slice yua1 yun1 yum1, .slice yua2 yun2 yum2, .slice yua3 yun3 yum3, .slice yua4 yun4 yum4, .slice yua5 yun5 yum5, .int .i64 yuc, .int .i64 yue], .string sv]) (v := .string sv) (show opAt (opsOf Try.f5 10) 8 = some (some 40, .extract (.tmp 32) 1, none) from by kernel_rfl) (by kernel_rfl) (by kernel_rfl) (by kernel_rfl) (by rfl) ?_
          refine run_new (C := #[.int .i64 0, .slice none 0 0, .slice none 0 0, .slice none 0 0, .slice none 0 0, .slice none 0 0, .int .i64 0, .int .i64 0]) (show opAt (opsOf Try.f5 10) 9 = some (some 8, .alloc 31, none) from by kernel_rfl) (by kernel_rfl) (by kernel_rfl) new_vec (fun W9 n9 hW9 hn9 => ?_)
          subst hW9
          refine ⟨heldC_call H.out (below1 _ _), ?_⟩
          have N9 := Lib.hid (⟨blk_new _ _ hn9⟩ : NewB n9 31 #[.int .i64 0, .slice none 0 0, .slice none 0 0, .slice none 0 0, .slice none 0 0, .slice none 0 0, .int .i64 0, .int .i64 0] _)
          have G9 := Lib.hid (by rw [hn9]; exact H.out.1.size : w3.heap.size ≤ n9)
          have F9_0 := Lib.hid (by rw [hn9]; exact (Array.getElem?_eq_some_iff.1 (heldC_at H.out (List.Mem.head _))).1 : w.heap.size < n9)
          have F9_1 := Lib.hid (by rw [hn9]; exact (Array.getElem?_eq_some_iff.1 (heldC_at H.out (List.Mem.tail _ (List.Mem.head _)))).1 : (w.heap.size + 1) < n9)
          have A1 := Lib.hid (A1.out.keep (below1 _ (.cells #[.int .i64 0, .slice none 0 0, .slice none 0 0, .slice none 0 0, .slice none 0 0, .slice none 0 0, .int .i64 0, .int .i64 0] 31)))
          have A2 := Lib.hid (A2.out.keep (below1 _ (.cells #[.int .i64 0, .slice none 0 0, .slice none 0 0, .slice none 0 0, .slice none 0 0, .slice none 0 0, .int .i64 0, .int .i64 0] 31)))
          have OU := Lib.hid (OU.out.keep (below1 _ (.cells #[.int .i64 0, .slice none 0 0, .slice none 0 0, .slice none 0 0, .slice none 0 0, .slice none 0 0, .int .i64 0, .int .i64 0] 31)))
          have H := Lib.hid (heldC_call H.out (below1 _ (.cells #[.int .i64 0, .slice none 0 0, .slice none 0 0, .slice none 0 0, .slice none 0 0, .slice none 0 0, .int .i64 0, .int .i64 0] 31)))
          have NE9 := Lib.hid hn9
          clear hn9
          refine run_store (w' := World.setRow _ n9 #[.int .i64 yuk, .slice yua1 yun1 yum1, .slice yua2 yun2 yum2, .slice yua3 yun3 yum3, .slice yua4 yun4 yum4, .slice yua5 yun5 yum5, .int .i64 yuc, .int .i64 yue]) (show opAt (opsOf Try.f5 10) 10 = some (none, .store 31 (.tmp 8) (.tmp 39), none) from by kernel_rfl) (by kernel_rfl) (by kernel_rfl) (by kernel_rfl) (store_vec8 N9.out.out (by simp [Value.oneCell'])) (⟨below_row H.out.1 G9.out _, fun q hq => row_old (H.out.2 q hq) (by have := F9_0.out; have := F9_1.out; rcases List.mem_cons.1 hq with rfl | hq; (simp only; omega); obtain rfl := List.mem_singleton.1 hq; simp only; omega)⟩) ?_
          refine run_asg (v := .string sv) (show opAt (opsOf Try.f5 10) 11 = some (some 9, .assign (.tmp 40), none) from by kernel_rfl) (by kernel_rfl) (by kernel_rfl) (by kernel_rfl) ?_
          refine run_done ?_
          simp only [putAll, Act.put, List.setIfInBounds_toArray, List.set_cons_zero, List.set_cons_succ]
          go_wp2_with fail
          go_meet
          exact ⟨_, _, rfl, rfl, ⟨row_set N9.out.out, (OU.out.own.rowO (by first | (left; have := UB.out; omega) | (right; have := NE9.out; omega))).wide LU.out (Nat.le_trans OU.out.hh (row_size _ _ _)), below_row H.out.1 G9.out _, G9.out⟩⟩
        · refine run_new (C := #[.int .i64 0, .slice none 0 0, .slice none 0 0, .slice none 0 0, .slice none 0 0, .slice none 0 0, .int .i64 0, .int .i64 0]) (show opAt (opsOf Try.f5 10) 9 = some (some 8, .alloc 31, none) from by kernel_rfl) (by kernel_rfl) (by kernel_rfl) new_vec (fun W9 n9 hW9 hn9 => ?_)
          subst hW9
          refine ⟨heldC_call H.out (below1 _ _), ?_⟩
          have N9 := Lib.hid (⟨blk_new _ _ hn9⟩ : NewB n9 31 #[.int .i64 0, .slice none 0 0, .slice none 0 0, .slice none 0 0, .slice none 0 0, .slice none 0 0, .int .i64 0, .int .i64 0] _)
          have G9 := Lib.hid (by rw [hn9]; exact H.out.1.size : w3.heap.size ≤ n9)
          have F9_0 := Lib.hid (by rw [hn9]; exact (Array.getElem?_eq_some_iff.1 (heldC_at H.out (List.Mem.head _))).1 : w.heap.size < n9)
          have F9_1 := Lib.hid (by rw [hn9]; exact (Array.getElem?_eq_some_iff.1 (heldC_at H.out (List.Mem.tail _ (List.Mem.head _)))).1 : (w.heap.size + 1) < n9)
          have A1 := Lib.hid (A1.out.keep (below1 _ (.cells #[.int .i64 0, .slice none 0 0, .slice none 0 0, .slice none 0 0, .slice none 0 0, .slice none 0 0, .int .i64 0, .int .i64 0] 31)))
          have A2 := Lib.hid (A2.out.keep (below1 _ (.cells #[.int .i64 0, .slice none 0 0, .slice none 0 0, .slice none 0 0, .slice none 0 0, .slice none 0 0, .int .i64 0, .int .i64 0] 31)))
          have H := Lib.hid (heldC_call H.out (below1 _ (.cells #[.int .i64 0, .slice none 0 0, .slice none 0 0, .slice none 0 0, .slice none 0 0, .slice none 0 0, .int .i64 0, .int .i64 0] 31)))
          have NE9 := Lib.hid hn9
          clear hn9
          refine run_call (args := [.string a0, yt1, yt2]) (show opAt (opsOf Try.f5 10) 5 = some (some 38, .call { callee := .value (.func 23), args := [(.tmp 33), (.tmp 35), (.tmp 37)].toArray, argTypes := [9, 31, 31].toArray }, none) from by kernel_rfl) (by kernel_rfl) (by kernel_rfl) (by kernel_rfl) (by kernel_rfl) ?_
          refine (SP.out _ yt1 yt2 A1.out.out A2.out.out).mono ?_
          rintro en rw3 ⟨yu, rfl, ho, hb⟩
          refine ⟨_, rfl, heldC_call H.out hb, ?_⟩
          obtain ⟨yuk, yua1, yun1, yum1, yua2, yun2, yum2, yua3, yun3, yum3, yua4, yun4, yum4, yua5, yun5, yum5, yuc, yue, rfl⟩ := ho.agg
          (try have UB := Lib.hid (Array.getElem?_eq_some_iff.1 N9.out.out).1)
          have LU := Lib.hid H.out.1.size
          have H := Lib.hid (heldC_call H.out hb)
          have A1 := Lib.hid (A1.out.keep hb)
          have A2 := Lib.hid (A2.out.keep hb)
          have N9 := Lib.hid (N9.out.keep hb)
          have OU := Lib.hid (⟨ho, Nat.le_refl _⟩ : OwnH 1 V _ _ _ _)
          clear ho hb
          refine run_mov (v := .tuple #[.agg #[.int .i64 yuk, .slice yua1 yun1 yum1, .slice yua2 yun2 yum2, .slice yua3 yun3 yum3, .slice yua4 yun4 yum4, .slice yua5 yun5 yum5, .int .i64 yuc, .int .i64 yue], .string sv]) (show opAt (opsOf Try.f5 10) 6 = some (some 32, .move (.tmp 38), none) from by kernel_rfl) (by kernel_rfl) (by kernel_rfl) (by kernel_rfl) ?_
          refine run_extract (vs := #[.agg #[.int .i64 yuk, .slice yua1 yun1 yum1, .slice yua2 yun2 yum2, .slice yua3 yun3 yum3, .slice yua4 yun4 yum4, .slice yua5 yun5 yum5, .int .i64 yuc, .int .i64 yue], .string sv]) (v := .agg #[.int .i64 yuk, .slice yua1 yun1 yum1, .slice yua2 yun2 yum2, .slice yua3 yun3 yum3, .slice yua4 yun4 yum4, .slice yua5 yun5 yum5, .int .i64 yuc, .int .i64 yue]) (show opAt (opsOf Try.f5 10) 7 = some (some 39, .extract (.tmp 32) 0, none) from by kernel_rfl) (by kernel_rfl) (by kernel_rfl) (by kernel_rfl) (by rfl) ?_
          refine run_extract (vs := #[.agg #[.int .i64 yuk, .slice yua1 yun1 yum1, .slice yua2 yun2 yum2, .slice yua3 yun3 yum3, .slice yua4 yun4 yum4, .slice yua5 yun5 yum5, .int .i64 yuc, .int .i64 yue], .string sv]) (v := .string sv) (show opAt (opsOf Try.f5 10) 8 = some (some 40, .extract (.tmp 32) 1, none) from by kernel_rfl) (by kernel_rfl) (by kernel_rfl) (by kernel_rfl) (by rfl) ?_
          refine run_store (w' := World.setRow _ n9 #[.int .i64 yuk, .slice yua1 yun1 yum1, .slice yua2 yun2 yum2, .slice yua3 yun3 yum3, .slice yua4 yun4 yum4, .slice yua5 yun5 yum5, .int .i64 yuc, .int .i64 yue]) (show opAt (opsOf Try.f5 10) 10 = some (none, .store 31 (.tmp 8) (.tmp 39), none) from by kernel_rfl) (by kernel_rfl) (by kernel_rfl) (by kernel_rfl) (store_vec8 N9.out.out (by simp [Value.oneCell'])) (⟨below_row H.out.1 G9.out _, fun q hq => row_old (H.out.2 q hq) (by have := F9_0.out; have := F9_1.out; rcases List.mem_cons.1 hq with rfl | hq; (simp only; omega); obtain rfl := List.mem_singleton.1 hq; simp only; omega)⟩) ?_
          refine run_asg (v := .string sv) (show opAt (opsOf Try.f5 10) 11 = some (some 9, .assign (.tmp 40), none) from by kernel_rfl) (by kernel_rfl) (by kernel_rfl) (by kernel_rfl) ?_
          refine run_done ?_
          simp only [putAll, Act.put, List.setIfInBounds_toArray, List.set_cons_zero, List.set_cons_succ]
          go_wp2_with fail
          go_meet
          exact ⟨_, _, rfl, rfl, ⟨row_set N9.out.out, (OU.out.own.rowO (by first | (left; have := UB.out; omega) | (right; have := NE9.out; omega))).wide LU.out (Nat.le_trans OU.out.hh (row_size _ _ _)), below_row H.out.1 G9.out _, G9.out⟩⟩
      · refine run_new (C := #[.int .i64 0, .slice none 0 0, .slice none 0 0, .slice none 0 0, .slice none 0 0, .slice none 0 0, .int .i64 0, .int .i64 0]) (show opAt (opsOf Try.f5 10) 9 = some (some 8, .alloc 31, none) from by kernel_rfl) (by kernel_rfl) (by kernel_rfl) new_vec (fun W9 n9 hW9 hn9 => ?_)
        subst hW9
        refine ⟨heldC_call H.out (below1 _ _), ?_⟩
        have N9 := Lib.hid (⟨blk_new _ _ hn9⟩ : NewB n9 31 #[.int .i64 0, .slice none 0 0, .slice none 0 0, .slice none 0 0, .slice none 0 0, .slice none 0 0, .int .i64 0, .int .i64 0] _)
        have G9 := Lib.hid (by rw [hn9]; exact H.out.1.size : w3.heap.size ≤ n9)
        have F9_0 := Lib.hid (by rw [hn9]; exact (Array.getElem?_eq_some_iff.1 (heldC_at H.out (List.Mem.head _))).1 : w.heap.size < n9)
        have F9_1 := Lib.hid (by rw [hn9]; exact (Array.getElem?_eq_some_iff.1 (heldC_at H.out (List.Mem.tail _ (List.Mem.head _)))).1 : (w.heap.size + 1) < n9)
        have A1 := Lib.hid (A1.out.keep (below1 _ (.cells #[.int .i64 0, .slice none 0 0, .slice none 0 0, .slice none 0 0, .slice none 0 0, .slice none 0 0, .int .i64 0, .int .i64 0] 31)))
        have H := Lib.hid (heldC_call H.out (below1 _ (.cells #[.int .i64 0, .slice none 0 0, .slice none 0 0, .slice none 0 0, .slice none 0 0, .slice none 0 0, .int .i64 0, .int .i64 0] 31)))
        have NE9 := Lib.hid hn9
        clear hn9
        refine run_call (args := [.agg #[.int .i64 p2k, .slice p2a1 p2n1 p2m1, .slice p2a2 p2n2 p2m2, .slice p2a3 p2n3 p2m3, .slice p2a4 p2n4 p2m4, .slice p2a5 p2n5 p2m5, .int .i64 p2c, .int .i64 p2e]]) (show opAt (opsOf Try.f5 10) 4 = some (some 37, .call { callee := .value (.func 16), args := [(.tmp 36)].toArray, argTypes := [26].toArray }, none) from by kernel_rfl) (by kernel_rfl) (by kernel_rfl) (by kernel_rfl) (by kernel_rfl) ?_
        refine (TO2.out _ (below_then B3.out H.out.1)).mono ?_
        rintro en rw2 ⟨yt2, rfl, ho, hb⟩
        refine ⟨_, rfl, heldC_call H.out hb, ?_⟩
        have H := Lib.hid (heldC_call H.out hb)
        have A1 := Lib.hid (A1.out.keep hb)
        have N9 := Lib.hid (N9.out.keep hb)
        have A2 := Lib.hid (ResV.vatH ho)
        clear ho hb
        refine run_call (args := [.string a0, yt1, yt2]) (show opAt (opsOf Try.f5 10) 5 = some (some 38, .call { callee := .value (.func 23), args := [(.tmp 33), (.tmp 35), (.tmp 37)].toArray, argTypes := [9, 31, 31].toArray }, none) from by kernel_rfl) (by kernel_rfl) (by kernel_rfl) (by kernel_rfl) (by kernel_rfl) ?_
        refine (SP.out _ yt1 yt2 A1.out.out A2.out.out).mono ?_
        rintro en rw3 ⟨yu, rfl, ho, hb⟩
        refine ⟨_, rfl, heldC_call H.out hb, ?_⟩
        obtain ⟨yuk, yua1, yun1, yum1, yua2, yun2, yum2, yua3, yun3, yum3, yua4, yun4, yum4, yua5, yun5, yum5, yuc, yue, rfl⟩ := ho.agg
        (try have UB := Lib.hid (Array.getElem?_eq_some_iff.1 N9.out.out).1)
        have LU := Lib.hid H.out.1.size
        have H := Lib.hid (heldC_call H.out hb)
        have A1 := Lib.hid (A1.out.keep hb)
        have N9 := Lib.hid (N9.out.keep hb)
        have A2 := Lib.hid (A2.out.keep hb)
        have OU := Lib.hid (⟨ho, Nat.le_refl _⟩ : OwnH 1 V _ _ _ _)
        clear ho hb
        refine run_mov (v := .tuple #[.agg #[.int .i64 yuk, .slice yua1 yun1 yum1, .slice yua2 yun2 yum2, .slice yua3 yun3 yum3, .slice yua4 yun4 yum4, .slice yua5 yun5 yum5, .int .i64 yuc, .int .i64 yue], .string sv]) (show opAt (opsOf Try.f5 10) 6 = some (some 32, .move (.tmp 38), none) from by kernel_rfl) (by kernel_rfl) (by kernel_rfl) (by kernel_rfl) ?_
        refine run_extract (vs := #[.agg #[.int .i64 yuk, .slice yua1 yun1 yum1, .slice yua2 yun2 yum2, .slice yua3 yun3 yum3, .slice yua4 yun4 yum4, .slice yua5 yun5 yum5, .int .i64 yuc, .int .i64 yue], .string sv]) (v := .agg #[.int .i64 yuk, .slice yua1 yun1 yum1, .slice yua2 yun2 yum2, .slice yua3 yun3 yum3, .slice yua4 yun4 yum4, .slice yua5 yun5 yum5, .int .i64 yuc, .int .i64 yue]) (show opAt (opsOf Try.f5 10) 7 = some (some 39, .extract (.tmp 32) 0, none) from by kernel_rfl) (by kernel_rfl) (by kernel_rfl) (by kernel_rfl) (by rfl) ?_
        refine run_extract (vs := #[.agg #[.int .i64 yuk, .slice yua1 yun1 yum1, .slice yua2 yun2 yum2, .slice yua3 yun3 yum3, .slice yua4 yun4 yum4, .slice yua5 yun5 yum5, .int .i64 yuc, .int .i64 yue], .string sv]) (v := .string sv) (show opAt (opsOf Try.f5 10) 8 = some (some 40, .extract (.tmp 32) 1, none) from by kernel_rfl) (by kernel_rfl) (by kernel_rfl) (by kernel_rfl) (by rfl) ?_
        refine run_store (w' := World.setRow _ n9 #[.int .i64 yuk, .slice yua1 yun1 yum1, .slice yua2 yun2 yum2, .slice yua3 yun3 yum3, .slice yua4 yun4 yum4, .slice yua5 yun5 yum5, .int .i64 yuc, .int .i64 yue]) (show opAt (opsOf Try.f5 10) 10 = some (none, .store 31 (.tmp 8) (.tmp 39), none) from by kernel_rfl) (by kernel_rfl) (by kernel_rfl) (by kernel_rfl) (store_vec8 N9.out.out (by simp [Value.oneCell'])) (⟨below_row H.out.1 G9.out _, fun q hq => row_old (H.out.2 q hq) (by have := F9_0.out; have := F9_1.out; rcases List.mem_cons.1 hq with rfl | hq; (simp only; omega); obtain rfl := List.mem_singleton.1 hq; simp only; omega)⟩) ?_
        refine run_asg (v := .string sv) (show opAt (opsOf Try.f5 10) 11 = some (some 9, .assign (.tmp 40), none) from by kernel_rfl) (by kernel_rfl) (by kernel_rfl) (by kernel_rfl) ?_
        refine run_done ?_
        simp only [putAll, Act.put, List.setIfInBounds_toArray, List.set_cons_zero, List.set_cons_succ]
        go_wp2_with fail
        go_meet
        exact ⟨_, _, rfl, rfl, ⟨row_set N9.out.out, (OU.out.own.rowO (by first | (left; have := UB.out; omega) | (right; have := NE9.out; omega))).wide LU.out (Nat.le_trans OU.out.hh (row_size _ _ _)), below_row H.out.1 G9.out _, G9.out⟩⟩
    · refine run_new (C := #[.int .i64 0, .slice none 0 0, .slice none 0 0, .slice none 0 0, .slice none 0 0, .slice none 0 0, .int .i64 0, .int .i64 0]) (show opAt (opsOf Try.f5 10) 9 = some (some 8, .alloc 31, none) from by kernel_rfl) (by kernel_rfl) (by kernel_rfl) new_vec (fun W9 n9 hW9 hn9 => ?_)
      subst hW9
      refine ⟨heldC_call H.out (below1 _ _), ?_⟩
      have N9 := Lib.hid (⟨blk_new _ _ hn9⟩ : NewB n9 31 #[.int .i64 0, .slice none 0 0, .slice none 0 0, .slice none 0 0, .slice none 0 0, .slice none 0 0, .int .i64 0, .int .i64 0] _)
      have G9 := Lib.hid (by rw [hn9]; exact H.out.1.size : w3.heap.size ≤ n9)
      have F9_0 := Lib.hid (by rw [hn9]; exact (Array.getElem?_eq_some_iff.1 (heldC_at H.out (List.Mem.head _))).1 : w.heap.size < n9)
      have F9_1 := Lib.hid (by rw [hn9]; exact (Array.getElem?_eq_some_iff.1 (heldC_at H.out (List.Mem.tail _ (List.Mem.head _)))).1 : (w.heap.size + 1) < n9)
      have H := Lib.hid (heldC_call H.out (below1 _ (.cells #[.int .i64 0, .slice none 0 0, .slice none 0 0, .slice none 0 0, .slice none 0 0, .slice none 0 0, .int .i64 0, .int .i64 0] 31)))
      have NE9 := Lib.hid hn9
      clear hn9
      refine run_call (args := [.agg #[.int .i64 p1k, .slice p1a1 p1n1 p1m1, .slice p1a2 p1n2 p1m2, .slice p1a3 p1n3 p1m3, .slice p1a4 p1n4 p1m4, .slice p1a5 p1n5 p1m5, .int .i64 p1c, .int .i64 p1e]]) (show opAt (opsOf Try.f5 10) 2 = some (some 35, .call { callee := .value (.func 16), args := [(.tmp 34)].toArray, argTypes := [26].toArray }, none) from by kernel_rfl) (by kernel_rfl) (by kernel_rfl) (by kernel_rfl) (by kernel_rfl) ?_
      refine (TO1.out _ (below_then B3.out H.out.1)).mono ?_
      rintro en rw1 ⟨yt1, rfl, ho, hb⟩
      refine ⟨_, rfl, heldC_call H.out hb, ?_⟩
      have H := Lib.hid (heldC_call H.out hb)
      have N9 := Lib.hid (N9.out.keep hb)
      have A1 := Lib.hid (ResV.vatH ho)
      clear ho hb
      refine run_call (args := [.agg #[.int .i64 p2k, .slice p2a1 p2n1 p2m1, .slice p2a2 p2n2 p2m2, .slice p2a3 p2n3 p2m3, .slice p2a4 p2n4 p2m4, .slice p2a5 p2n5 p2m5, .int .i64 p2c, .int .i64 p2e]]) (show opAt (opsOf Try.f5 10) 4 = some (some 37, .call { callee := .value (.func 16), args := [(.tmp 36)].toArray, argTypes := [26].toArray }, none) from by kernel_rfl) (by kernel_rfl) (by kernel_rfl) (by kernel_rfl) (by kernel_rfl) ?_
      refine (TO2.out _ (below_then B3.out H.out.1)).mono ?_
      rintro en rw2 ⟨yt2, rfl, ho, hb⟩
      refine ⟨_, rfl, heldC_call H.out hb, ?_⟩
      have H := Lib.hid (heldC_call H.out hb)
      have N9 := Lib.hid (N9.out.keep hb)
      have A1 := Lib.hid (A1.out.keep hb)
      have A2 := Lib.hid (ResV.vatH ho)
      clear ho hb
      refine run_call (args := [.string a0, yt1, yt2]) (show opAt (opsOf Try.f5 10) 5 = some (some 38, .call { callee := .value (.func 23), args := [(.tmp 33), (.tmp 35), (.tmp 37)].toArray, argTypes := [9, 31, 31].toArray }, none) from by kernel_rfl) (by kernel_rfl) (by kernel_rfl) (by kernel_rfl) (by kernel_rfl) ?_
      refine (SP.out _ yt1 yt2 A1.out.out A2.out.out).mono ?_
      rintro en rw3 ⟨yu, rfl, ho, hb⟩
      refine ⟨_, rfl, heldC_call H.out hb, ?_⟩
      obtain ⟨yuk, yua1, yun1, yum1, yua2, yun2, yum2, yua3, yun3, yum3, yua4, yun4, yum4, yua5, yun5, yum5, yuc, yue, rfl⟩ := ho.agg
      (try have UB := Lib.hid (Array.getElem?_eq_some_iff.1 N9.out.out).1)
      have LU := Lib.hid H.out.1.size
      have H := Lib.hid (heldC_call H.out hb)
      have N9 := Lib.hid (N9.out.keep hb)
      have A1 := Lib.hid (A1.out.keep hb)
      have A2 := Lib.hid (A2.out.keep hb)
      have OU := Lib.hid (⟨ho, Nat.le_refl _⟩ : OwnH 1 V _ _ _ _)
      clear ho hb
      refine run_mov (v := .tuple #[.agg #[.int .i64 yuk, .slice yua1 yun1 yum1, .slice yua2 yun2 yum2, .slice yua3 yun3 yum3, .slice yua4 yun4 yum4, .slice yua5 yun5 yum5, .int .i64 yuc, .int .i64 yue], .string sv]) (show opAt (opsOf Try.f5 10) 6 = some (some 32, .move (.tmp 38), none) from by kernel_rfl) (by kernel_rfl) (by kernel_rfl) (by kernel_rfl) ?_
      refine run_extract (vs := #[.agg #[.int .i64 yuk, .slice yua1 yun1 yum1, .slice yua2 yun2 yum2, .slice yua3 yun3 yum3, .slice yua4 yun4 yum4, .slice yua5 yun5 yum5, .int .i64 yuc, .int .i64 yue], .string sv]) (v := .agg #[.int .i64 yuk, .slice yua1 yun1 yum1, .slice yua2 yun2 yum2, .slice yua3 yun3 yum3, .slice yua4 yun4 yum4, .slice yua5 yun5 yum5, .int .i64 yuc, .int .i64 yue]) (show opAt (opsOf Try.f5 10) 7 = some (some 39, .extract (.tmp 32) 0, none) from by kernel_rfl) (by kernel_rfl) (by kernel_rfl) (by kernel_rfl) (by rfl) ?_
      refine run_extract (vs := #[.agg #[.int .i64 yuk, .slice yua1 yun1 yum1, .slice yua2 yun2 yum2, .slice yua3 yun3 yum3, .slice yua4 yun4 yum4, .slice yua5 yun5 yum5, .int .i64 yuc, .int .i64 yue], .string sv]) (v := .string sv) (show opAt (opsOf Try.f5 10) 8 = some (some 40, .extract (.tmp 32) 1, none) from by kernel_rfl) (by kernel_rfl) (by kernel_rfl) (by kernel_rfl) (by rfl) ?_
      refine run_store (w' := World.setRow _ n9 #[.int .i64 yuk, .slice yua1 yun1 yum1, .slice yua2 yun2 yum2, .slice yua3 yun3 yum3, .slice yua4 yun4 yum4, .slice yua5 yun5 yum5, .int .i64 yuc, .int .i64 yue]) (show opAt (opsOf Try.f5 10) 10 = some (none, .store 31 (.tmp 8) (.tmp 39), none) from by kernel_rfl) (by kernel_rfl) (by kernel_rfl) (by kernel_rfl) (store_vec8 N9.out.out (by simp [Value.oneCell'])) (⟨below_row H.out.1 G9.out _, fun q hq => row_old (H.out.2 q hq) (by have := F9_0.out; have := F9_1.out; rcases List.mem_cons.1 hq with rfl | hq; (simp only; omega); obtain rfl := List.mem_singleton.1 hq; simp only; omega)⟩) ?_
      refine run_asg (v := .string sv) (show opAt (opsOf Try.f5 10) 11 = some (some 9, .assign (.tmp 40), none) from by kernel_rfl) (by kernel_rfl) (by kernel_rfl) (by kernel_rfl) ?_
      refine run_done ?_
      simp only [putAll, Act.put, List.setIfInBounds_toArray, List.set_cons_zero, List.set_cons_succ]
      go_wp2_with fail
      go_meet
      exact ⟨_, _, rfl, rfl, ⟨row_set N9.out.out, (OU.out.own.rowO (by first | (left; have := UB.out; omega) | (right; have := NE9.out; omega))).wide LU.out (Nat.le_trans OU.out.hh (row_size _ _ _)), below_row H.out.1 G9.out _, G9.out⟩⟩
  obtain ⟨w4, rfl⟩ : ∃ u : World, u = wc := ⟨_, rfl⟩
  obtain ⟨gu, C, rfl, rfl, hm⟩ := hcut
  obtain ⟨uk, ua1, un1, um1, ua2, un2, um2, ua3, un3, um3, ua4, un4, um4, ua5, un5, um5, uc, ue, rfl⟩ := hm.cells
  clear H
  have b := hm.below
  have Z4 := Lib.hid b.size
  have B4 := Lib.hid (below_then B3.out b)
  have Kp14 := Lib.hid (blk_below b Kp13.out)
  clear Kp13
  have Kp24 := Lib.hid (blk_below b Kp23.out)
  clear Kp23
  clear b
  have ZSu := Lib.hid (Array.getElem?_eq_some_iff.1 hm.blk).1
  have Ku4 := Lib.hid (hm.blk)
  have Ou4 := Lib.hid (hm.own)
  have Ouh4 := Lib.hid ((Nat.le_refl _) : w4.heap.size ≤ w4.heap.size)
  clear hm
  obtain ⟨p1k0, p1k1, p1k2, p1k3, p1k4, p1k5, p1k6, p1k7⟩ := vec8 Kp14.out
  go_wp2_with fail
  with_reducible refine (TO1.out _ B4.out).mono ?_
  rintro e w5 ⟨y, rfl, ho, b⟩
  obtain ⟨x1k, x1a1, x1n1, x1m1, x1a2, x1n2, x1m2, x1a3, x1n3, x1m3, x1a4, x1n4, x1m4, x1a5, x1n5, x1m5, x1c, x1e, rfl⟩ := ho.agg
  try clear hzp1
  clear p1k0 p1k1 p1k2 p1k3 p1k4 p1k5 p1k6 p1k7
  have Z5 := Lib.hid b.size
  have B5 := Lib.hid (below_then B4.out b)
  have Kp15 := Lib.hid (blk_below b Kp14.out)
  clear Kp14
  have Kp25 := Lib.hid (blk_below b Kp24.out)
  clear Kp24
  have Ku5 := Lib.hid (blk_below b Ku4.out)
  clear Ku4
  have Ou5 := Lib.hid (Ou4.out.below b Ouh4.out)
  have Ouh5 := Lib.hid (Nat.le_trans Ouh4.out b.size)
  clear Ou4 Ouh4
  clear b
  have Ox15 := Lib.hid (ho)
  have Ox1h5 := Lib.hid ((Nat.le_refl _) : w5.heap.size ≤ w5.heap.size)
  clear ho
  obtain ⟨p2k0, p2k1, p2k2, p2k3, p2k4, p2k5, p2k6, p2k7⟩ := vec8 Kp25.out
  have hzp2 := (Array.getElem?_eq_some_iff.1 Kp25.out).1
  go_wp2_with fail
  obtain ⟨w6, hW⟩ : ∃ W, w5.alloc (.cells #[.int .i64 x1k, .slice x1a1 x1n1 x1m1, .slice x1a2 x1n2 x1m2, .slice x1a3 x1n3 x1m3, .slice x1a4 x1n4 x1m4, .slice x1a5 x1n5 x1m5, .int .i64 x1c, .int .i64 x1e] 31) = W := ⟨_, rfl⟩
  have b : Below w5.heap.size w5 w6 := hW ▸ below1 w5 _
  have kb : w6.heap[w5.heap.size]? = some (.cells #[.int .i64 x1k, .slice x1a1 x1n1 x1m1, .slice x1a2 x1n2 x1m2, .slice x1a3 x1n3 x1m3, .slice x1a4 x1n4 x1m4, .slice x1a5 x1n5 x1m5, .int .i64 x1c, .int .i64 x1e] 31 (0, 0)) := hW ▸ blk_new w5 _ rfl
  rw [hW]
  clear hW
  have Z6 := Lib.hid b.size
  have B6 := Lib.hid (below_then B5.out b)
  have Kp16 := Lib.hid (blk_below b Kp15.out)
  clear Kp15
  have Kp26 := Lib.hid (blk_below b Kp25.out)
  clear Kp25
  have Ku6 := Lib.hid (blk_below b Ku5.out)
  clear Ku5
  have Ou6 := Lib.hid (Ou5.out.below b Ouh5.out)
  have Ouh6 := Lib.hid (Nat.le_trans Ouh5.out b.size)
  clear Ou5 Ouh5
  have Ox16 := Lib.hid (Ox15.out.below b Ox1h5.out)
  have Ox1h6 := Lib.hid (Nat.le_trans Ox1h5.out b.size)
  clear Ox15 Ox1h5
  clear b
  have ZS6 := Lib.hid (Array.getElem?_eq_some_iff.1 kb).1
  have Kx16 := Lib.hid (kb)
  clear kb
  with_reducible refine (TO2.out _ B6.out).mono ?_
  rintro e w7 ⟨y, rfl, ho, b⟩
  obtain ⟨x2k, x2a1, x2n1, x2m1, x2a2, x2n2, x2m2, x2a3, x2n3, x2m3, x2a4, x2n4, x2m4, x2a5, x2n5, x2m5, x2c, x2e, rfl⟩ := ho.agg
  try clear hzp2
  clear p2k0 p2k1 p2k2 p2k3 p2k4 p2k5 p2k6 p2k7
  have Z7 := Lib.hid b.size
  have B7 := Lib.hid (below_then B6.out b)
  have Kp17 := Lib.hid (blk_below b Kp16.out)
  clear Kp16
  have Kp27 := Lib.hid (blk_below b Kp26.out)
  clear Kp26
  have Ku7 := Lib.hid (blk_below b Ku6.out)
  clear Ku6
  have Ou7 := Lib.hid (Ou6.out.below b Ouh6.out)
  have Ouh7 := Lib.hid (Nat.le_trans Ouh6.out b.size)
  clear Ou6 Ouh6
  have Ox17 := Lib.hid (Ox16.out.below b Ox1h6.out)
  have Ox1h7 := Lib.hid (Nat.le_trans Ox1h6.out b.size)
  clear Ox16 Ox1h6
  have Kx17 := Lib.hid (blk_below b Kx16.out)
  clear Kx16
  clear b
  have Ox27 := Lib.hid (ho)
  have Ox2h7 := Lib.hid ((Nat.le_refl _) : w7.heap.size ≤ w7.heap.size)
  clear ho
  obtain ⟨x1k0, x1k1, x1k2, x1k3, x1k4, x1k5, x1k6, x1k7⟩ := vec8 Kx17.out
  have hzx1 := (Array.getElem?_eq_some_iff.1 Kx17.out).1
  go_wp2_with fail
  obtain ⟨w8, hW⟩ : ∃ W, w7.alloc (.cells #[.int .i64 x2k, .slice x2a1 x2n1 x2m1, .slice x2a2 x2n2 x2m2, .slice x2a3 x2n3 x2m3, .slice x2a4 x2n4 x2m4, .slice x2a5 x2n5 x2m5, .int .i64 x2c, .int .i64 x2e] 31) = W := ⟨_, rfl⟩
  have b : Below w7.heap.size w7 w8 := hW ▸ below1 w7 _
  have kb : w8.heap[w7.heap.size]? = some (.cells #[.int .i64 x2k, .slice x2a1 x2n1 x2m1, .slice x2a2 x2n2 x2m2, .slice x2a3 x2n3 x2m3, .slice x2a4 x2n4 x2m4, .slice x2a5 x2n5 x2m5, .int .i64 x2c, .int .i64 x2e] 31 (0, 0)) := hW ▸ blk_new w7 _ rfl
  rw [hW]
  clear hW
  have Z8 := Lib.hid b.size
  have B8 := Lib.hid (below_then B7.out b)
  have Kp18 := Lib.hid (blk_below b Kp17.out)
  clear Kp17
  have Kp28 := Lib.hid (blk_below b Kp27.out)
  clear Kp27
  have Ku8 := Lib.hid (blk_below b Ku7.out)
  clear Ku7
  have Ou8 := Lib.hid (Ou7.out.below b Ouh7.out)
  have Ouh8 := Lib.hid (Nat.le_trans Ouh7.out b.size)
  clear Ou7 Ouh7
  have Ox18 := Lib.hid (Ox17.out.below b Ox1h7.out)
  have Ox1h8 := Lib.hid (Nat.le_trans Ox1h7.out b.size)
  clear Ox17 Ox1h7
  have Kx18 := Lib.hid (blk_below b Kx17.out)
  clear Kx17
  have Ox28 := Lib.hid (Ox27.out.below b Ox2h7.out)
  have Ox2h8 := Lib.hid (Nat.le_trans Ox2h7.out b.size)
  clear Ox27 Ox2h7
  clear b
  have ZS8 := Lib.hid (Array.getElem?_eq_some_iff.1 kb).1
  have Kx28 := Lib.hid (kb)
  clear kb
  with_reducible refine (IM.out _ _ _ (Ox18.out.vat Ox1h8.out) (Ox28.out.vat Ox2h8.out)).mono ?_
  rintro e w9 ⟨y, rfl, ho, b⟩
  obtain ⟨gk, ga1, gn1, gm1, ga2, gn2, gm2, ga3, gn3, gm3, ga4, gn4, gm4, ga5, gn5, gm5, gc, ge, rfl⟩ := ho.agg
  try clear hzx1
  clear x1k0 x1k1 x1k2 x1k3 x1k4 x1k5 x1k6 x1k7
  have Z9 := Lib.hid b.size
  have B9 := Lib.hid (below_then B8.out b)
  have Kp19 := Lib.hid (blk_below b Kp18.out)
  clear Kp18
  have Kp29 := Lib.hid (blk_below b Kp28.out)
  clear Kp28
  have Ku9 := Lib.hid (blk_below b Ku8.out)
  clear Ku8
  have Ou9 := Lib.hid (Ou8.out.below b Ouh8.out)
  have Ouh9 := Lib.hid (Nat.le_trans Ouh8.out b.size)
  clear Ou8 Ouh8
  have Ox19 := Lib.hid (Ox18.out.below b Ox1h8.out)
  have Ox1h9 := Lib.hid (Nat.le_trans Ox1h8.out b.size)
  clear Ox18 Ox1h8
  have Kx19 := Lib.hid (blk_below b Kx18.out)
  clear Kx18
  have Ox29 := Lib.hid (Ox28.out.below b Ox2h8.out)
  have Ox2h9 := Lib.hid (Nat.le_trans Ox2h8.out b.size)
  clear Ox28 Ox2h8
  have Kx29 := Lib.hid (blk_below b Kx28.out)
  clear Kx28
  clear b
  have Og9 := Lib.hid (ho)
  have Ogh9 := Lib.hid ((Nat.le_refl _) : w9.heap.size ≤ w9.heap.size)
  clear ho
  obtain ⟨uk0, uk1, uk2, uk3, uk4, uk5, uk6, uk7⟩ := vec8 Ku9.out
  have hzu := (Array.getElem?_eq_some_iff.1 Ku9.out).1
  go_wp2_with fail
  obtain ⟨w10, hW⟩ : ∃ W, w9.alloc (.cells #[.int .i64 gk, .slice ga1 gn1 gm1, .slice ga2 gn2 gm2, .slice ga3 gn3 gm3, .slice ga4 gn4 gm4, .slice ga5 gn5 gm5, .int .i64 gc, .int .i64 ge] 31) = W := ⟨_, rfl⟩
  have b : Below w9.heap.size w9 w10 := hW ▸ below1 w9 _
  have kb : w10.heap[w9.heap.size]? = some (.cells #[.int .i64 gk, .slice ga1 gn1 gm1, .slice ga2 gn2 gm2, .slice ga3 gn3 gm3, .slice ga4 gn4 gm4, .slice ga5 gn5 gm5, .int .i64 gc, .int .i64 ge] 31 (0, 0)) := hW ▸ blk_new w9 _ rfl
  rw [hW]
  clear hW
  have Z10 := Lib.hid b.size
  have B10 := Lib.hid (below_then B9.out b)
  have Kp110 := Lib.hid (blk_below b Kp19.out)
  clear Kp19
  have Kp210 := Lib.hid (blk_below b Kp29.out)
  clear Kp29
  have Ku10 := Lib.hid (blk_below b Ku9.out)
  clear Ku9
  have Ou10 := Lib.hid (Ou9.out.below b Ouh9.out)
  have Ouh10 := Lib.hid (Nat.le_trans Ouh9.out b.size)
  clear Ou9 Ouh9
  have Ox110 := Lib.hid (Ox19.out.below b Ox1h9.out)
  have Ox1h10 := Lib.hid (Nat.le_trans Ox1h9.out b.size)
  clear Ox19 Ox1h9
  have Kx110 := Lib.hid (blk_below b Kx19.out)
  clear Kx19
  have Ox210 := Lib.hid (Ox29.out.below b Ox2h9.out)
  have Ox2h10 := Lib.hid (Nat.le_trans Ox2h9.out b.size)
  clear Ox29 Ox2h9
  have Kx210 := Lib.hid (blk_below b Kx29.out)
  clear Kx29
  have Og10 := Lib.hid (Og9.out.below b Ogh9.out)
  have Ogh10 := Lib.hid (Nat.le_trans Ogh9.out b.size)
  clear Og9 Ogh9
  clear b
  have ZS10 := Lib.hid (Array.getElem?_eq_some_iff.1 kb).1
  have Kg10 := Lib.hid (kb)
  clear kb
  with_reducible refine (EQ.out _ _ _ (Og10.out.vat Ogh10.out) (Ou10.out.vat Ouh10.out)).mono ?_
  rintro e w11 ⟨rfl, b⟩
  try clear hzu
  clear uk0 uk1 uk2 uk3 uk4 uk5 uk6 uk7
  have Z11 := Lib.hid b.size
  have B11 := Lib.hid (below_then B10.out b)
  have Kp111 := Lib.hid (blk_below b Kp110.out)
  clear Kp110
  have Kp211 := Lib.hid (blk_below b Kp210.out)
  clear Kp210
  have Ku11 := Lib.hid (blk_below b Ku10.out)
  clear Ku10
  have Ou11 := Lib.hid (Ou10.out.below b Ouh10.out)
  have Ouh11 := Lib.hid (Nat.le_trans Ouh10.out b.size)
  clear Ou10 Ouh10
  have Ox111 := Lib.hid (Ox110.out.below b Ox1h10.out)
  have Ox1h11 := Lib.hid (Nat.le_trans Ox1h10.out b.size)
  clear Ox110 Ox1h10
  have Kx111 := Lib.hid (blk_below b Kx110.out)
  clear Kx110
  have Ox211 := Lib.hid (Ox210.out.below b Ox2h10.out)
  have Ox2h11 := Lib.hid (Nat.le_trans Ox2h10.out b.size)
  clear Ox210 Ox2h10
  have Kx211 := Lib.hid (blk_below b Kx210.out)
  clear Kx210
  have Og11 := Lib.hid (Og10.out.below b Ogh10.out)
  have Ogh11 := Lib.hid (Nat.le_trans Ogh10.out b.size)
  clear Og10 Ogh10
  have Kg11 := Lib.hid (blk_below b Kg10.out)
  clear Kg10
  clear b
  go_wp2
  have H := Lib.hid (heldC_two (Below.refl _ _) Kx111.out Kp111.out)
  refine run_region (ops := (opsOf Try.f5 16)) (S := fun w' => HeldC w11 w' ([(w5.heap.size, 31, #[.int .i64 x1k, .slice x1a1 x1n1 x1m1, .slice x1a2 x1n2 x1m2, .slice x1a3 x1n3 x1m3, .slice x1a4 x1n4 x1m4, .slice x1a5 x1n5 x1m5, .int .i64 x1c, .int .i64 x1e]), (w.heap.size, 26, #[.int .i64 p1k, .slice p1a1 p1n1 p1m1, .slice p1a2 p1n2 p1m2, .slice p1a3 p1n3 p1m3, .slice p1a4 p1n4 p1m4, .slice p1a5 p1n5 p1m5, .int .i64 p1c, .int .i64 p1e])])) [(0, true), (1, true), (2, false), (3, false), (4, true)] (by kernel_rfl) (by kernel_rfl) (by kernel_rfl) (by kernel_rfl) (by kernel_rfl) (fun _ _ _ _ _ h => h) (heldC_drew H.out) ?_
  have H := Lib.hid (heldC_drew H.out)
  refine runC_vec (b := w5.heap.size) (show opAt (opsOf Try.f5 16) 0 = some (some 61, .load 31 (.tmp 10), none) from by kernel_rfl) (by kernel_rfl) (by kernel_rfl) (by kernel_rfl) (List.Mem.head _) ?_
  refine runC_lvec (b := w.heap.size) (show opAt (opsOf Try.f5 16) 1 = some (some 62, .load 26 (.tmp 4), none) from by kernel_rfl) (by kernel_rfl) (by kernel_rfl) (by kernel_rfl) (List.Mem.tail _ (List.Mem.head _)) ?_
  refine run_call (args := [.agg #[.int .i64 p1k, .slice p1a1 p1n1 p1m1, .slice p1a2 p1n2 p1m2, .slice p1a3 p1n3 p1m3, .slice p1a4 p1n4 p1m4, .slice p1a5 p1n5 p1m5, .int .i64 p1c, .int .i64 p1e]]) (show opAt (opsOf Try.f5 16) 2 = some (some 63, .call { callee := .value (.func 16), args := [(.tmp 62)].toArray, argTypes := [26].toArray }, none) from by kernel_rfl) (by kernel_rfl) (by kernel_rfl) (by kernel_rfl) (by kernel_rfl) ?_
  refine (TO1.out _ (below_then B11.out H.out.1)).mono ?_
  rintro en r0w1 ⟨yq, rfl, ho, hb⟩
  refine ⟨_, rfl, heldC_call H.out hb, ?_⟩
  have Oyq := Lib.hid ho
  have H := Lib.hid (heldC_call H.out hb)
  clear ho hb
  refine run_call (args := [.agg #[.int .i64 x1k, .slice x1a1 x1n1 x1m1, .slice x1a2 x1n2 x1m2, .slice x1a3 x1n3 x1m3, .slice x1a4 x1n4 x1m4, .slice x1a5 x1n5 x1m5, .int .i64 x1c, .int .i64 x1e], yq]) (show opAt (opsOf Try.f5 16) 3 = some (some 64, .call { callee := .value (.func 18), args := [(.tmp 61), (.tmp 63)].toArray, argTypes := [31, 31].toArray }, none) from by kernel_rfl) (by kernel_rfl) (by kernel_rfl) (by kernel_rfl) (by kernel_rfl) ?_
  refine (QX1.out _ _ _ ((Ox111.out.below H.out.1 Ox1h11.out).vat (Nat.le_trans Ox1h11.out H.out.1.size)) (Oyq.out.vat (Nat.le_refl _))).mono ?_
  rintro en r0w2 ⟨rfl, hb⟩
  refine ⟨_, rfl, heldC_call H.out hb, ?_⟩
  have H := Lib.hid (heldC_call H.out hb)
  clear hb
  refine run_not (b := true) (show opAt (opsOf Try.f5 16) 4 = some (some 65, .unOp .not 4 (.tmp 64), none) from by kernel_rfl) (by kernel_rfl) (by kernel_rfl) (by kernel_rfl) ?_
  refine run_done ?_
  simp only [putAll, Act.put, List.setIfInBounds_toArray, List.set_cons_zero, List.set_cons_succ]
  have b := H.out.1
  clear H Oyq
  have Z12 := Lib.hid b.size
  have B12 := Lib.hid (below_then B11.out b)
  have Kp112 := Lib.hid (blk_below b Kp111.out)
  clear Kp111
  have Kp212 := Lib.hid (blk_below b Kp211.out)
  clear Kp211
  have Ku12 := Lib.hid (blk_below b Ku11.out)
  clear Ku11
  have Ou12 := Lib.hid (Ou11.out.below b Ouh11.out)
  have Ouh12 := Lib.hid (Nat.le_trans Ouh11.out b.size)
  clear Ou11 Ouh11
  have Ox112 := Lib.hid (Ox111.out.below b Ox1h11.out)
  have Ox1h12 := Lib.hid (Nat.le_trans Ox1h11.out b.size)
  clear Ox111 Ox1h11
  have Kx112 := Lib.hid (blk_below b Kx111.out)
  clear Kx111
  have Ox212 := Lib.hid (Ox211.out.below b Ox2h11.out)
  have Ox2h12 := Lib.hid (Nat.le_trans Ox2h11.out b.size)
  clear Ox211 Ox2h11
  have Kx212 := Lib.hid (blk_below b Kx211.out)
  clear Kx211
  have Og12 := Lib.hid (Og11.out.below b Ogh11.out)
  have Ogh12 := Lib.hid (Nat.le_trans Ogh11.out b.size)
  clear Og11 Ogh11
  have Kg12 := Lib.hid (blk_below b Kg11.out)
  clear Kg11
  clear b
  go_wp2
  have H := Lib.hid (heldC_two (Below.refl _ _) Kx212.out Kp212.out)
  refine run_region (ops := (opsOf Try.f5 18)) (S := fun w' => HeldC r0w2 w' ([(w7.heap.size, 31, #[.int .i64 x2k, .slice x2a1 x2n1 x2m1, .slice x2a2 x2n2 x2m2, .slice x2a3 x2n3 x2m3, .slice x2a4 x2n4 x2m4, .slice x2a5 x2n5 x2m5, .int .i64 x2c, .int .i64 x2e]), ((w.heap.size + 1), 26, #[.int .i64 p2k, .slice p2a1 p2n1 p2m1, .slice p2a2 p2n2 p2m2, .slice p2a3 p2n3 p2m3, .slice p2a4 p2n4 p2m4, .slice p2a5 p2n5 p2m5, .int .i64 p2c, .int .i64 p2e])])) [(0, true), (1, true), (2, false), (3, false), (4, true)] (by kernel_rfl) (by kernel_rfl) (by kernel_rfl) (by kernel_rfl) (by kernel_rfl) (fun _ _ _ _ _ h => h) (heldC_drew H.out) ?_
  have H := Lib.hid (heldC_drew H.out)
  refine runC_vec (b := w7.heap.size) (show opAt (opsOf Try.f5 18) 0 = some (some 66, .load 31 (.tmp 11), none) from by kernel_rfl) (by kernel_rfl) (by kernel_rfl) (by kernel_rfl) (List.Mem.head _) ?_
  refine runC_lvec (b := (w.heap.size + 1)) (show opAt (opsOf Try.f5 18) 1 = some (some 67, .load 26 (.tmp 5), none) from by kernel_rfl) (by kernel_rfl) (by kernel_rfl) (by kernel_rfl) (List.Mem.tail _ (List.Mem.head _)) ?_
  refine run_call (args := [.agg #[.int .i64 p2k, .slice p2a1 p2n1 p2m1, .slice p2a2 p2n2 p2m2, .slice p2a3 p2n3 p2m3, .slice p2a4 p2n4 p2m4, .slice p2a5 p2n5 p2m5, .int .i64 p2c, .int .i64 p2e]]) (show opAt (opsOf Try.f5 18) 2 = some (some 68, .call { callee := .value (.func 16), args := [(.tmp 67)].toArray, argTypes := [26].toArray }, none) from by kernel_rfl) (by kernel_rfl) (by kernel_rfl) (by kernel_rfl) (by kernel_rfl) ?_
  refine (TO2.out _ (below_then B12.out H.out.1)).mono ?_
  rintro en r1w1 ⟨yq, rfl, ho, hb⟩
  refine ⟨_, rfl, heldC_call H.out hb, ?_⟩
  have Oyq := Lib.hid ho
  have H := Lib.hid (heldC_call H.out hb)
  clear ho hb
  refine run_call (args := [.agg #[.int .i64 x2k, .slice x2a1 x2n1 x2m1, .slice x2a2 x2n2 x2m2, .slice x2a3 x2n3 x2m3, .slice x2a4 x2n4 x2m4, .slice x2a5 x2n5 x2m5, .int .i64 x2c, .int .i64 x2e], yq]) (show opAt (opsOf Try.f5 18) 3 = some (some 69, .call { callee := .value (.func 18), args := [(.tmp 66), (.tmp 68)].toArray, argTypes := [31, 31].toArray }, none) from by kernel_rfl) (by kernel_rfl) (by kernel_rfl) (by kernel_rfl) (by kernel_rfl) ?_
  refine (QX2.out _ _ _ ((Ox212.out.below H.out.1 Ox2h12.out).vat (Nat.le_trans Ox2h12.out H.out.1.size)) (Oyq.out.vat (Nat.le_refl _))).mono ?_
  rintro en r1w2 ⟨rfl, hb⟩
  refine ⟨_, rfl, heldC_call H.out hb, ?_⟩
  have H := Lib.hid (heldC_call H.out hb)
  clear hb
  refine run_not (b := true) (show opAt (opsOf Try.f5 18) 4 = some (some 70, .unOp .not 4 (.tmp 69), none) from by kernel_rfl) (by kernel_rfl) (by kernel_rfl) (by kernel_rfl) ?_
  refine run_done ?_
  simp only [putAll, Act.put, List.setIfInBounds_toArray, List.set_cons_zero, List.set_cons_succ]
  have b := H.out.1
  clear H Oyq
  have Z13 := Lib.hid b.size
  have B13 := Lib.hid (below_then B12.out b)
  have Kp113 := Lib.hid (blk_below b Kp112.out)
  clear Kp112
  have Kp213 := Lib.hid (blk_below b Kp212.out)
  clear Kp212
  have Ku13 := Lib.hid (blk_below b Ku12.out)
  clear Ku12
  have Ou13 := Lib.hid (Ou12.out.below b Ouh12.out)
  have Ouh13 := Lib.hid (Nat.le_trans Ouh12.out b.size)
  clear Ou12 Ouh12
  have Ox113 := Lib.hid (Ox112.out.below b Ox1h12.out)
  have Ox1h13 := Lib.hid (Nat.le_trans Ox1h12.out b.size)
  clear Ox112 Ox1h12
  have Kx113 := Lib.hid (blk_below b Kx112.out)
  clear Kx112
  have Ox213 := Lib.hid (Ox212.out.below b Ox2h12.out)
  have Ox2h13 := Lib.hid (Nat.le_trans Ox2h12.out b.size)
  clear Ox212 Ox2h12
  have Kx213 := Lib.hid (blk_below b Kx212.out)
  clear Kx212
  have Og13 := Lib.hid (Og12.out.below b Ogh12.out)
  have Ogh13 := Lib.hid (Nat.le_trans Ogh12.out b.size)
  clear Og12 Ogh12
  have Kg13 := Lib.hid (blk_below b Kg12.out)
  clear Kg12
  clear b
  obtain ⟨x1k0, x1k1, x1k2, x1k3, x1k4, x1k5, x1k6, x1k7⟩ := vec8 Kx113.out
  go_wp2_with fail
  with_reducible refine (MX1.out _ _ _ _ Ox113.out Ox1h13.out).mono ?_
  rintro e w12 ⟨rfl, t⟩
  try clear hzx1
  clear x1k0 x1k1 x1k2 x1k3 x1k4 x1k5 x1k6 x1k7
  have Z14 := Lib.hid t.size
  have B14 := Lib.hid (B13.out.trans (t.below (Nat.le_trans (Nat.le_trans (Nat.le_trans Z1.out Z2.out) Z3.out) Z4.out) B13.out.size))
  have Kp114 := Lib.hid (t.blk (.inl (Nat.lt_of_lt_of_le ZSp1.out (Nat.le_trans (Nat.le_trans Z2.out Z3.out) Z4.out))) Kp113.out)
  clear Kp113
  have Kp214 := Lib.hid (t.blk (.inl (Nat.lt_of_lt_of_le ZSp2.out (Nat.le_trans (Nat.le_trans Z2.out Z3.out) Z4.out))) Kp213.out)
  clear Kp213
  have Ku14 := Lib.hid (t.blk (.inl (Nat.lt_of_lt_of_le ZSu.out (Nat.le_refl _))) Ku13.out)
  clear Ku13
  have Ou14 := Lib.hid (Ou13.out.within t (.inl (Nat.le_refl _)) Ouh13.out)
  have Ouh14 := Lib.hid (Nat.le_trans Ouh13.out t.size)
  clear Ou13 Ouh13
  have Kx114 := Lib.hid (t.blk (.inr (Nat.le_refl _)) Kx113.out)
  clear Kx113
  have Ox214 := Lib.hid (Ox213.out.within t (.inr Z6.out) Ox2h13.out)
  have Ox2h14 := Lib.hid (Nat.le_trans Ox2h13.out t.size)
  clear Ox213 Ox2h13
  have Kx214 := Lib.hid (t.blk (.inr (Nat.le_trans Z6.out Z7.out)) Kx213.out)
  clear Kx213
  have Og14 := Lib.hid (Og13.out.within t (.inr (Nat.le_trans (Nat.le_trans Z6.out Z7.out) Z8.out)) Ogh13.out)
  have Ogh14 := Lib.hid (Nat.le_trans Ogh13.out t.size)
  clear Og13 Ogh13
  have Kg14 := Lib.hid (t.blk (.inr (Nat.le_trans (Nat.le_trans (Nat.le_trans Z6.out Z7.out) Z8.out) Z9.out)) Kg13.out)
  clear Kg13
  clear Ox113 Ox1h13
  clear t
  clear Kx114
  obtain ⟨x2k0, x2k1, x2k2, x2k3, x2k4, x2k5, x2k6, x2k7⟩ := vec8 Kx214.out
  go_wp2_with fail
  with_reducible refine (MX2.out _ _ _ _ Ox214.out Ox2h14.out).mono ?_
  rintro e w13 ⟨rfl, t⟩
  try clear hzx2
  clear x2k0 x2k1 x2k2 x2k3 x2k4 x2k5 x2k6 x2k7
  have Z15 := Lib.hid t.size
  have B15 := Lib.hid (B14.out.trans (t.below (Nat.le_trans (Nat.le_trans (Nat.le_trans (Nat.le_trans (Nat.le_trans Z1.out Z2.out) Z3.out) Z4.out) Z5.out) Z6.out) B14.out.size))
  have Kp115 := Lib.hid (t.blk (.inl (Nat.lt_of_lt_of_le ZSp1.out (Nat.le_trans (Nat.le_trans (Nat.le_trans (Nat.le_trans Z2.out Z3.out) Z4.out) Z5.out) Z6.out))) Kp114.out)
  clear Kp114
  have Kp215 := Lib.hid (t.blk (.inl (Nat.lt_of_lt_of_le ZSp2.out (Nat.le_trans (Nat.le_trans (Nat.le_trans (Nat.le_trans Z2.out Z3.out) Z4.out) Z5.out) Z6.out))) Kp214.out)
  clear Kp214
  have Ku15 := Lib.hid (t.blk (.inl (Nat.lt_of_lt_of_le ZSu.out (Nat.le_trans Z5.out Z6.out))) Ku14.out)
  clear Ku14
  have Ou15 := Lib.hid (Ou14.out.within t (.inl (Nat.le_trans Z5.out Z6.out)) Ouh14.out)
  have Ouh15 := Lib.hid (Nat.le_trans Ouh14.out t.size)
  clear Ou14 Ouh14
  have Kx215 := Lib.hid (t.blk (.inr (Nat.le_refl _)) Kx214.out)
  clear Kx214
  have Og15 := Lib.hid (Og14.out.within t (.inr Z8.out) Ogh14.out)
  have Ogh15 := Lib.hid (Nat.le_trans Ogh14.out t.size)
  clear Og14 Ogh14
  have Kg15 := Lib.hid (t.blk (.inr (Nat.le_trans Z8.out Z9.out)) Kg14.out)
  clear Kg14
  clear Ox214 Ox2h14
  clear t
  clear Kx215
  obtain ⟨gk0, gk1, gk2, gk3, gk4, gk5, gk6, gk7⟩ := vec8 Kg15.out
  obtain ⟨uk0, uk1, uk2, uk3, uk4, uk5, uk6, uk7⟩ := vec8 Ku15.out
  go_wp2_with fail
  with_reducible refine (EQ.out _ _ _ (Og15.out.vat Ogh15.out) (Ou15.out.vat Ouh15.out)).mono ?_
  rintro e w14 ⟨rfl, b⟩
  try clear hzg
  clear gk0 gk1 gk2 gk3 gk4 gk5 gk6 gk7
  try clear hzu
  clear uk0 uk1 uk2 uk3 uk4 uk5 uk6 uk7
  have Z16 := Lib.hid b.size
  have B16 := Lib.hid (below_then B15.out b)
  have Kp116 := Lib.hid (blk_below b Kp115.out)
  clear Kp115
  have Kp216 := Lib.hid (blk_below b Kp215.out)
  clear Kp215
  have Ku16 := Lib.hid (blk_below b Ku15.out)
  clear Ku15
  have Ou16 := Lib.hid (Ou15.out.below b Ouh15.out)
  have Ouh16 := Lib.hid (Nat.le_trans Ouh15.out b.size)
  clear Ou15 Ouh15
  have Og16 := Lib.hid (Og15.out.below b Ogh15.out)
  have Ogh16 := Lib.hid (Nat.le_trans Ogh15.out b.size)
  clear Og15 Ogh15
  have Kg16 := Lib.hid (blk_below b Kg15.out)
  clear Kg15
  clear b
  obtain ⟨gk0, gk1, gk2, gk3, gk4, gk5, gk6, gk7⟩ := vec8 Kg16.out
  go_wp2_with fail
  with_reducible refine (MV.out _ _ _ _ Og16.out Ogh16.out).mono ?_
  rintro e w15 ⟨rfl, ho, t⟩
  try clear hzg
  clear gk0 gk1 gk2 gk3 gk4 gk5 gk6 gk7
  have Z17 := Lib.hid t.size
  have B17 := Lib.hid (B16.out.trans (t.below (Nat.le_trans (Nat.le_trans (Nat.le_trans (Nat.le_trans (Nat.le_trans (Nat.le_trans (Nat.le_trans Z1.out Z2.out) Z3.out) Z4.out) Z5.out) Z6.out) Z7.out) Z8.out) B16.out.size))
  have Kp117 := Lib.hid (t.blk (.inl (Nat.lt_of_lt_of_le ZSp1.out (Nat.le_trans (Nat.le_trans (Nat.le_trans (Nat.le_trans (Nat.le_trans (Nat.le_trans Z2.out Z3.out) Z4.out) Z5.out) Z6.out) Z7.out) Z8.out))) Kp116.out)
  clear Kp116
  have Kp217 := Lib.hid (t.blk (.inl (Nat.lt_of_lt_of_le ZSp2.out (Nat.le_trans (Nat.le_trans (Nat.le_trans (Nat.le_trans (Nat.le_trans (Nat.le_trans Z2.out Z3.out) Z4.out) Z5.out) Z6.out) Z7.out) Z8.out))) Kp216.out)
  clear Kp216
  have Ku17 := Lib.hid (t.blk (.inl (Nat.lt_of_lt_of_le ZSu.out (Nat.le_trans (Nat.le_trans (Nat.le_trans Z5.out Z6.out) Z7.out) Z8.out))) Ku16.out)
  clear Ku16
  have Ou17 := Lib.hid (Ou16.out.within t (.inl (Nat.le_trans (Nat.le_trans (Nat.le_trans Z5.out Z6.out) Z7.out) Z8.out)) Ouh16.out)
  have Ouh17 := Lib.hid (Nat.le_trans Ouh16.out t.size)
  clear Ou16 Ouh16
  have Kg17 := Lib.hid (t.blk (.inr (Nat.le_refl _)) Kg16.out)
  clear Kg16
  have Og17 := Lib.hid ho
  have Ogh17 := Lib.hid (Nat.le_trans Ogh16.out t.size)
  clear Og16 Ogh16 ho
  clear t
  obtain ⟨gk0, gk1, gk2, gk3, gk4, gk5, gk6, gk7⟩ := vec8 Kg17.out
  go_wp2_with fail
  with_reducible refine (HV.out _ _ _ _ Og17.out Ogh17.out).mono ?_
  rintro e w16 ⟨rfl, b⟩
  try clear hzg
  clear gk0 gk1 gk2 gk3 gk4 gk5 gk6 gk7
  have Z18 := Lib.hid b.size
  have B18 := Lib.hid (below_then B17.out b)
  have Kp118 := Lib.hid (blk_below b Kp117.out)
  clear Kp117
  have Kp218 := Lib.hid (blk_below b Kp217.out)
  clear Kp217
  have Ku18 := Lib.hid (blk_below b Ku17.out)
  clear Ku17
  have Ou18 := Lib.hid (Ou17.out.below b Ouh17.out)
  have Ouh18 := Lib.hid (Nat.le_trans Ouh17.out b.size)
  clear Ou17 Ouh17
  have Og18 := Lib.hid (Og17.out.below b Ogh17.out)
  have Ogh18 := Lib.hid (Nat.le_trans Ogh17.out b.size)
  clear Og17 Ogh17
  have Kg18 := Lib.hid (blk_below b Kg17.out)
  clear Kg17
  clear b
  go_upto_region 33 with (fail)
  have H := Lib.hid (show HeldC w16 w16 ([(w.heap.size, 26, #[.int .i64 p1k, .slice p1a1 p1n1 p1m1, .slice p1a2 p1n2 p1m2, .slice p1a3 p1n3 p1m3, .slice p1a4 p1n4 p1m4, .slice p1a5 p1n5 p1m5, .int .i64 p1c, .int .i64 p1e]), ((w.heap.size + 1), 26, #[.int .i64 p2k, .slice p2a1 p2n1 p2m1, .slice p2a2 p2n2 p2m2, .slice p2a3 p2n3 p2m3, .slice p2a4 p2n4 p2m4, .slice p2a5 p2n5 p2m5, .int .i64 p2c, .int .i64 p2e])]) from heldC_cons (heldC_cons ⟨Below.refl _ _, (fun _ h => by cases h)⟩ Kp218.out) Kp118.out)
  go_cut [17, 18] from 101 to 109 (fun pu su wx => ∃ (gu : Nat) (C : Array Value), pu = .pointer (some ⟨gu, 0, none⟩) ∧ su = .string sv ∧ MadeU V w16 wx gu C)
  case first =>
    refine run_regionT (ops := (opsOf Try.f5 33)) (S := fun w' => HeldC w16 w' ([(w.heap.size, 26, #[.int .i64 p1k, .slice p1a1 p1n1 p1m1, .slice p1a2 p1n2 p1m2, .slice p1a3 p1n3 p1m3, .slice p1a4 p1n4 p1m4, .slice p1a5 p1n5 p1m5, .int .i64 p1c, .int .i64 p1e]), ((w.heap.size + 1), 26, #[.int .i64 p2k, .slice p2a1 p2n1 p2m1, .slice p2a2 p2n2 p2m2, .slice p2a3 p2n3 p2m3, .slice p2a4 p2n4 p2m4, .slice p2a5 p2n5 p2m5, .int .i64 p2c, .int .i64 p2e])])) (.fork [(0, true), (1, true), (3, true)] 2 (.fork [] 4 (.fork [] 5 (.leaf [(6, true), (7, true), (8, true), (9, false), (10, false), (11, true)]) 9 (.leaf [(5, false), (6, true), (7, true), (8, true), (10, false), (11, true)])) 9 (.leaf [(4, false), (5, false), (6, true), (7, true), (8, true), (10, false), (11, true)])) 9 (.leaf [(2, false), (4, false), (5, false), (6, true), (7, true), (8, true), (10, false), (11, true)])) (by kernel_rfl) (by kernel_rfl) (by kernel_rfl) (by kernel_rfl) (by kernel_rfl) (fun _ _ _ _ _ h => h) (heldC_drew H.out) ?_
    have H := Lib.hid (heldC_drew H.out)
    refine run_mov (v := .string a0) (show opAt (opsOf Try.f5 33) 0 = some (some 102, .move (.tmp 0), none) from by kernel_rfl) (by kernel_rfl) (by kernel_rfl) (by kernel_rfl) ?_
    refine runC_lvec (b := w.heap.size) (show opAt (opsOf Try.f5 33) 1 = some (some 103, .load 26 (.tmp 4), none) from by kernel_rfl) (by kernel_rfl) (by kernel_rfl) (by kernel_rfl) (List.Mem.head _) ?_
    refine runC_lvec (b := (w.heap.size + 1)) (show opAt (opsOf Try.f5 33) 3 = some (some 105, .load 26 (.tmp 5), none) from by kernel_rfl) (by kernel_rfl) (by kernel_rfl) (by kernel_rfl) (List.Mem.tail _ (List.Mem.head _)) ?_
    refine run_fork H.out (by kernel_rfl) (by kernel_rfl) ?_ ?_
    · refine run_call (args := [.agg #[.int .i64 p1k, .slice p1a1 p1n1 p1m1, .slice p1a2 p1n2 p1m2, .slice p1a3 p1n3 p1m3, .slice p1a4 p1n4 p1m4, .slice p1a5 p1n5 p1m5, .int .i64 p1c, .int .i64 p1e]]) (show opAt (opsOf Try.f5 33) 2 = some (some 104, .call { callee := .value (.func 16), args := [(.tmp 103)].toArray, argTypes := [26].toArray }, none) from by kernel_rfl) (by kernel_rfl) (by kernel_rfl) (by kernel_rfl) (by kernel_rfl) ?_
      refine (TO1.out _ (below_then B18.out H.out.1)).mono ?_
      rintro en rw1 ⟨yt1, rfl, ho, hb⟩
      refine ⟨_, rfl, heldC_call H.out hb, ?_⟩
      have H := Lib.hid (heldC_call H.out hb)
      have A1 := Lib.hid (ResV.vatH ho)
      clear ho hb
      refine run_fork H.out (by kernel_rfl) (by kernel_rfl) ?_ ?_
      · refine run_call (args := [.agg #[.int .i64 p2k, .slice p2a1 p2n1 p2m1, .slice p2a2 p2n2 p2m2, .slice p2a3 p2n3 p2m3, .slice p2a4 p2n4 p2m4, .slice p2a5 p2n5 p2m5, .int .i64 p2c, .int .i64 p2e]]) (show opAt (opsOf Try.f5 33) 4 = some (some 106, .call { callee := .value (.func 16), args := [(.tmp 105)].toArray, argTypes := [26].toArray }, none) from by kernel_rfl) (by kernel_rfl) (by kernel_rfl) (by kernel_rfl) (by kernel_rfl) ?_
        refine (TO2.out _ (below_then B18.out H.out.1)).mono ?_
        rintro en rw2 ⟨yt2, rfl, ho, hb⟩
        refine ⟨_, rfl, heldC_call H.out hb, ?_⟩
        have H := Lib.hid (heldC_call H.out hb)
        have A1 := Lib.hid (A1.out.keep hb)
        have A2 := Lib.hid (ResV.vatH ho)
        clear ho hb
        refine run_fork H.out (by kernel_rfl) (by kernel_rfl) ?_ ?_
        · refine run_call (args := [.string a0, yt1, yt2]) (show opAt (opsOf Try.f5 33) 5 = some (some 107, .call { callee := .value (.func 24), args := [(.tmp 102), (.tmp 104), (.tmp 106)].toArray, argTypes := [9, 31, 31].toArray }, none) from by kernel_rfl) (by kernel_rfl) (by kernel_rfl) (by kernel_rfl) (by kernel_rfl) ?_
          refine (IM.out _ yt1 yt2 A1.out.out A2.out.out).mono ?_
          rintro en rw3 ⟨yu, rfl, ho, hb⟩
          refine ⟨_, rfl, heldC_call H.out hb, ?_⟩
          obtain ⟨yuk, yua1, yun1, yum1, yua2, yun2, yum2, yua3, yun3, yum3, yua4, yun4, yum4, yua5, yun5, yum5, yuc, yue, rfl⟩ := ho.agg
          (try have UB := Lib.hid (Array.getElem?_eq_some_iff.1 N9.out.out).1)
          have LU := Lib.hid H.out.1.size
          have H := Lib.hid (heldC_call H.out hb)
          have A1 := Lib.hid (A1.out.keep hb)
          have A2 := Lib.hid (A2.out.keep hb)
          have OU := Lib.hid (⟨ho, Nat.le_refl _⟩ : OwnH 1 V _ _ _ _)
          clear ho hb
          refine run_mov (v := .tuple #[.agg #[.int .i64 yuk, .slice yua1 yun1 yum1, .slice yua2 yun2 yum2, .slice yua3 yun3 yum3, .slice yua4 yun4 yum4, .slice yua5 yun5 yum5, .int .i64 yuc, .int .i64 yue], .string sv]) (show opAt (opsOf Try.f5 33) 6 = some (some 101, .move (.tmp 107), none) from by kernel_rfl) (by kernel_rfl) (by kernel_rfl) (by kernel_rfl) ?_
          refine run_extract (vs := #[.agg #[.int .i64 yuk, .slice yua1 yun1 yum1, .slice yua2 yun2 yum2, .slice yua3 yun3 yum3, .slice yua4 yun4 yum4, .slice yua5 yun5 yum5, .int .i64 yuc, .int .i64 yue], .string sv]) (v := .agg #[.int .i64 yuk, .slice yua1 yun1 yum1, .slice yua2 yun2 yum2, .slice yua3 yun3 yum3, .slice yua4 yun4 yum4, .slice yua5 yun5 yum5, .int .i64 yuc, .int .i64 yue]) (show opAt (opsOf Try.f5 33) 7 = some (some 108, .extract (.tmp 101) 0, none) from by kernel_rfl) (by kernel_rfl) (by kernel_rfl) (by kernel_rfl) (by rfl) ?_
          refine run_extract (vs := #[.agg #[.int .i64 yuk, .slice yua1 yun1 yum1, .slice yua2 yun2 yum2, .slice yua3 yun3 yum3, .slice yua4 yun4 yum4, .slice yua5 yun5 yum5, .int .i64 yuc, .int .i64 yue], .string sv]) (v := .string sv) (show opAt (opsOf Try.f5 33) 8 = some (some 109, .extract (.tmp 101) 1, none) from by kernel_rfl) (by kernel_rfl) (by kernel_rfl) (by kernel_rfl) (by rfl) ?_
          refine run_new (C := #[.int .i64 0, .slice none 0 0, .slice none 0 0, .slice none 0 0, .slice none 0 0, .slice none 0 0, .int .i64 0, .int .i64 0]) (show opAt (opsOf Try.f5 33) 9 = some (some 17, .alloc 31, none) from by kernel_rfl) (by kernel_rfl) (by kernel_rfl) new_vec (fun W9 n9 hW9 hn9 => ?_)
          subst hW9
          refine ⟨heldC_call H.out (below1 _ _), ?_⟩
          have N9 := Lib.hid (⟨blk_new _ _ hn9⟩ : NewB n9 31 #[.int .i64 0, .slice none 0 0, .slice none 0 0, .slice none 0 0, .slice none 0 0, .slice none 0 0, .int .i64 0, .int .i64 0] _)
          have G9 := Lib.hid (by rw [hn9]; exact H.out.1.size : w16.heap.size ≤ n9)
          have F9_0 := Lib.hid (by rw [hn9]; exact (Array.getElem?_eq_some_iff.1 (heldC_at H.out (List.Mem.head _))).1 : w.heap.size < n9)
          have F9_1 := Lib.hid (by rw [hn9]; exact (Array.getElem?_eq_some_iff.1 (heldC_at H.out (List.Mem.tail _ (List.Mem.head _)))).1 : (w.heap.size + 1) < n9)
          have A1 := Lib.hid (A1.out.keep (below1 _ (.cells #[.int .i64 0, .slice none 0 0, .slice none 0 0, .slice none 0 0, .slice none 0 0, .slice none 0 0, .int .i64 0, .int .i64 0] 31)))
          have A2 := Lib.hid (A2.out.keep (below1 _ (.cells #[.int .i64 0, .slice none 0 0, .slice none 0 0, .slice none 0 0, .slice none 0 0, .slice none 0 0, .int .i64 0, .int .i64 0] 31)))
          have OU := Lib.hid (OU.out.keep (below1 _ (.cells #[.int .i64 0, .slice none 0 0, .slice none 0 0, .slice none 0 0, .slice none 0 0, .slice none 0 0, .int .i64 0, .int .i64 0] 31)))
          have H := Lib.hid (heldC_call H.out (below1 _ (.cells #[.int .i64 0, .slice none 0 0, .slice none 0 0, .slice none 0 0, .slice none 0 0, .slice none 0 0, .int .i64 0, .int .i64 0] 31)))
          have NE9 := Lib.hid hn9
          clear hn9
          refine run_store (w' := World.setRow _ n9 #[.int .i64 yuk, .slice yua1 yun1 yum1, .slice yua2 yun2 yum2, .slice yua3 yun3 yum3, .slice yua4 yun4 yum4, .slice yua5 yun5 yum5, .int .i64 yuc, .int .i64 yue]) (show opAt (opsOf Try.f5 33) 10 = some (none, .store 31 (.tmp 17) (.tmp 108), none) from by kernel_rfl) (by kernel_rfl) (by kernel_rfl) (by kernel_rfl) (store_vec8 N9.out.out (by simp [Value.oneCell'])) (⟨below_row H.out.1 G9.out _, fun q hq => row_old (H.out.2 q hq) (by have := F9_0.out; have := F9_1.out; rcases List.mem_cons.1 hq with rfl | hq; (simp only; omega); obtain rfl := List.mem_singleton.1 hq; simp only; omega)⟩) ?_
          refine run_asg (v := .string sv) (show opAt (opsOf Try.f5 33) 11 = some (some 18, .assign (.tmp 109), none) from by kernel_rfl) (by kernel_rfl) (by kernel_rfl) (by kernel_rfl) ?_
          refine run_done ?_
          simp only [putAll, Act.put, List.setIfInBounds_toArray, List.set_cons_zero, List.set_cons_succ]
          go_wp2_with fail
          go_meet
          exact ⟨_, _, rfl, rfl, ⟨row_set N9.out.out, (OU.out.own.rowO (by first | (left; have := UB.out; omega) | (right; have := NE9.out; omega))).wide LU.out (Nat.le_trans OU.out.hh (row_size _ _ _)), below_row H.out.1 G9.out _, G9.out⟩⟩
        · refine run_new (C := #[.int .i64 0, .slice none 0 0, .slice none 0 0, .slice none 0 0, .slice none 0 0, .slice none 0 0, .int .i64 0, .int .i64 0]) (show opAt (opsOf Try.f5 33) 9 = some (some 17, .alloc 31, none) from by kernel_rfl) (by kernel_rfl) (by kernel_rfl) new_vec (fun W9 n9 hW9 hn9 => ?_)
          subst hW9
          refine ⟨heldC_call H.out (below1 _ _), ?_⟩
          have N9 := Lib.hid (⟨blk_new _ _ hn9⟩ : NewB n9 31 #[.int .i64 0, .slice none 0 0, .slice none 0 0, .slice none 0 0, .slice none 0 0, .slice none 0 0, .int .i64 0, .int .i64 0] _)
          have G9 := Lib.hid (by rw [hn9]; exact H.out.1.size : w16.heap.size ≤ n9)
          have F9_0 := Lib.hid (by rw [hn9]; exact (Array.getElem?_eq_some_iff.1 (heldC_at H.out (List.Mem.head _))).1 : w.heap.size < n9)
          have F9_1 := Lib.hid (by rw [hn9]; exact (Array.getElem?_eq_some_iff.1 (heldC_at H.out (List.Mem.tail _ (List.Mem.head _)))).1 : (w.heap.size + 1) < n9)
          have A1 := Lib.hid (A1.out.keep (below1 _ (.cells #[.int .i64 0, .slice none 0 0, .slice none 0 0, .slice none 0 0, .slice none 0 0, .slice none 0 0, .int .i64 0, .int .i64 0] 31)))
          have A2 := Lib.hid (A2.out.keep (below1 _ (.cells #[.int .i64 0, .slice none 0 0, .slice none 0 0, .slice none 0 0, .slice none 0 0, .slice none 0 0, .int .i64 0, .int .i64 0] 31)))
          have H := Lib.hid (heldC_call H.out (below1 _ (.cells #[.int .i64 0, .slice none 0 0, .slice none 0 0, .slice none 0 0, .slice none 0 0, .slice none 0 0, .int .i64 0, .int .i64 0] 31)))
          have NE9 := Lib.hid hn9
          clear hn9
          refine run_call (args := [.string a0, yt1, yt2]) (show opAt (opsOf Try.f5 33) 5 = some (some 107, .call { callee := .value (.func 24), args := [(.tmp 102), (.tmp 104), (.tmp 106)].toArray, argTypes := [9, 31, 31].toArray }, none) from by kernel_rfl) (by kernel_rfl) (by kernel_rfl) (by kernel_rfl) (by kernel_rfl) ?_
          refine (IM.out _ yt1 yt2 A1.out.out A2.out.out).mono ?_
          rintro en rw3 ⟨yu, rfl, ho, hb⟩
          refine ⟨_, rfl, heldC_call H.out hb, ?_⟩
          obtain ⟨yuk, yua1, yun1, yum1, yua2, yun2, yum2, yua3, yun3, yum3, yua4, yun4, yum4, yua5, yun5, yum5, yuc, yue, rfl⟩ := ho.agg
          (try have UB := Lib.hid (Array.getElem?_eq_some_iff.1 N9.out.out).1)
          have LU := Lib.hid H.out.1.size
          have H := Lib.hid (heldC_call H.out hb)
          have A1 := Lib.hid (A1.out.keep hb)
          have A2 := Lib.hid (A2.out.keep hb)
          have N9 := Lib.hid (N9.out.keep hb)
          have OU := Lib.hid (⟨ho, Nat.le_refl _⟩ : OwnH 1 V _ _ _ _)
          clear ho hb
          refine run_mov (v := .tuple #[.agg #[.int .i64 yuk, .slice yua1 yun1 yum1, .slice yua2 yun2 yum2, .slice yua3 yun3 yum3, .slice yua4 yun4 yum4, .slice yua5 yun5 yum5, .int .i64 yuc, .int .i64 yue], .string sv]) (show opAt (opsOf Try.f5 33) 6 = some (some 101, .move (.tmp 107), none) from by kernel_rfl) (by kernel_rfl) (by kernel_rfl) (by kernel_rfl) ?_
          refine run_extract (vs := #[.agg #[.int .i64 yuk, .slice yua1 yun1 yum1, .slice yua2 yun2 yum2, .slice yua3 yun3 yum3, .slice yua4 yun4 yum4, .slice yua5 yun5 yum5, .int .i64 yuc, .int .i64 yue], .string sv]) (v := .agg #[.int .i64 yuk, .slice yua1 yun1 yum1, .slice yua2 yun2 yum2, .slice yua3 yun3 yum3, .slice yua4 yun4 yum4, .slice yua5 yun5 yum5, .int .i64 yuc, .int .i64 yue]) (show opAt (opsOf Try.f5 33) 7 = some (some 108, .extract (.tmp 101) 0, none) from by kernel_rfl) (by kernel_rfl) (by kernel_rfl) (by kernel_rfl) (by rfl) ?_
          refine run_extract (vs := #[.agg #[.int .i64 yuk, .slice yua1 yun1 yum1, .slice yua2 yun2 yum2, .slice yua3 yun3 yum3, .slice yua4 yun4 yum4, .slice yua5 yun5 yum5, .int .i64 yuc, .int .i64 yue], .string sv]) (v := .string sv) (show opAt (opsOf Try.f5 33) 8 = some (some 109, .extract (.tmp 101) 1, none) from by kernel_rfl) (by kernel_rfl) (by kernel_rfl) (by kernel_rfl) (by rfl) ?_
          refine run_store (w' := World.setRow _ n9 #[.int .i64 yuk, .slice yua1 yun1 yum1, .slice yua2 yun2 yum2, .slice yua3 yun3 yum3, .slice yua4 yun4 yum4, .slice yua5 yun5 yum5, .int .i64 yuc, .int .i64 yue]) (show opAt (opsOf Try.f5 33) 10 = some (none, .store 31 (.tmp 17) (.tmp 108), none) from by kernel_rfl) (by kernel_rfl) (by kernel_rfl) (by kernel_rfl) (store_vec8 N9.out.out (by simp [Value.oneCell'])) (⟨below_row H.out.1 G9.out _, fun q hq => row_old (H.out.2 q hq) (by have := F9_0.out; have := F9_1.out; rcases List.mem_cons.1 hq with rfl | hq; (simp only; omega); obtain rfl := List.mem_singleton.1 hq; simp only; omega)⟩) ?_
          refine run_asg (v := .string sv) (show opAt (opsOf Try.f5 33) 11 = some (some 18, .assign (.tmp 109), none) from by kernel_rfl) (by kernel_rfl) (by kernel_rfl) (by kernel_rfl) ?_
          refine run_done ?_
          simp only [putAll, Act.put, List.setIfInBounds_toArray, List.set_cons_zero, List.set_cons_succ]
          go_wp2_with fail
          go_meet
          exact ⟨_, _, rfl, rfl, ⟨row_set N9.out.out, (OU.out.own.rowO (by first | (left; have := UB.out; omega) | (right; have := NE9.out; omega))).wide LU.out (Nat.le_trans OU.out.hh (row_size _ _ _)), below_row H.out.1 G9.out _, G9.out⟩⟩
      · refine run_new (C := #[.int .i64 0, .slice none 0 0, .slice none 0 0, .slice none 0 0, .slice none 0 0, .slice none 0 0, .int .i64 0, .int .i64 0]) (show opAt (opsOf Try.f5 33) 9 = some (some 17, .alloc 31, none) from by kernel_rfl) (by kernel_rfl) (by kernel_rfl) new_vec (fun W9 n9 hW9 hn9 => ?_)
        subst hW9
        refine ⟨heldC_call H.out (below1 _ _), ?_⟩
        have N9 := Lib.hid (⟨blk_new _ _ hn9⟩ : NewB n9 31 #[.int .i64 0, .slice none 0 0, .slice none 0 0, .slice none 0 0, .slice none 0 0, .slice none 0 0, .int .i64 0, .int .i64 0] _)
        have G9 := Lib.hid (by rw [hn9]; exact H.out.1.size : w16.heap.size ≤ n9)
        have F9_0 := Lib.hid (by rw [hn9]; exact (Array.getElem?_eq_some_iff.1 (heldC_at H.out (List.Mem.head _))).1 : w.heap.size < n9)
        have F9_1 := Lib.hid (by rw [hn9]; exact (Array.getElem?_eq_some_iff.1 (heldC_at H.out (List.Mem.tail _ (List.Mem.head _)))).1 : (w.heap.size + 1) < n9)
        have A1 := Lib.hid (A1.out.keep (below1 _ (.cells #[.int .i64 0, .slice none 0 0, .slice none 0 0, .slice none 0 0, .slice none 0 0, .slice none 0 0, .int .i64 0, .int .i64 0] 31)))
        have H := Lib.hid (heldC_call H.out (below1 _ (.cells #[.int .i64 0, .slice none 0 0, .slice none 0 0, .slice none 0 0, .slice none 0 0, .slice none 0 0, .int .i64 0, .int .i64 0] 31)))
        have NE9 := Lib.hid hn9
        clear hn9
        refine run_call (args := [.agg #[.int .i64 p2k, .slice p2a1 p2n1 p2m1, .slice p2a2 p2n2 p2m2, .slice p2a3 p2n3 p2m3, .slice p2a4 p2n4 p2m4, .slice p2a5 p2n5 p2m5, .int .i64 p2c, .int .i64 p2e]]) (show opAt (opsOf Try.f5 33) 4 = some (some 106, .call { callee := .value (.func 16), args := [(.tmp 105)].toArray, argTypes := [26].toArray }, none) from by kernel_rfl) (by kernel_rfl) (by kernel_rfl) (by kernel_rfl) (by kernel_rfl) ?_
        refine (TO2.out _ (below_then B18.out H.out.1)).mono ?_
        rintro en rw2 ⟨yt2, rfl, ho, hb⟩
        refine ⟨_, rfl, heldC_call H.out hb, ?_⟩
        have H := Lib.hid (heldC_call H.out hb)
        have A1 := Lib.hid (A1.out.keep hb)
        have N9 := Lib.hid (N9.out.keep hb)
        have A2 := Lib.hid (ResV.vatH ho)
        clear ho hb
        refine run_call (args := [.string a0, yt1, yt2]) (show opAt (opsOf Try.f5 33) 5 = some (some 107, .call { callee := .value (.func 24), args := [(.tmp 102), (.tmp 104), (.tmp 106)].toArray, argTypes := [9, 31, 31].toArray }, none) from by kernel_rfl) (by kernel_rfl) (by kernel_rfl) (by kernel_rfl) (by kernel_rfl) ?_
        refine (IM.out _ yt1 yt2 A1.out.out A2.out.out).mono ?_
        rintro en rw3 ⟨yu, rfl, ho, hb⟩
        refine ⟨_, rfl, heldC_call H.out hb, ?_⟩
        obtain ⟨yuk, yua1, yun1, yum1, yua2, yun2, yum2, yua3, yun3, yum3, yua4, yun4, yum4, yua5, yun5, yum5, yuc, yue, rfl⟩ := ho.agg
        (try have UB := Lib.hid (Array.getElem?_eq_some_iff.1 N9.out.out).1)
        have LU := Lib.hid H.out.1.size
        have H := Lib.hid (heldC_call H.out hb)
        have A1 := Lib.hid (A1.out.keep hb)
        have N9 := Lib.hid (N9.out.keep hb)
        have A2 := Lib.hid (A2.out.keep hb)
        have OU := Lib.hid (⟨ho, Nat.le_refl _⟩ : OwnH 1 V _ _ _ _)
        clear ho hb
        refine run_mov (v := .tuple #[.agg #[.int .i64 yuk, .slice yua1 yun1 yum1, .slice yua2 yun2 yum2, .slice yua3 yun3 yum3, .slice yua4 yun4 yum4, .slice yua5 yun5 yum5, .int .i64 yuc, .int .i64 yue], .string sv]) (show opAt (opsOf Try.f5 33) 6 = some (some 101, .move (.tmp 107), none) from by kernel_rfl) (by kernel_rfl) (by kernel_rfl) (by kernel_rfl) ?_
        refine run_extract (vs := #[.agg #[.int .i64 yuk, .slice yua1 yun1 yum1, .slice yua2 yun2 yum2, .slice yua3 yun3 yum3, .slice yua4 yun4 yum4, .slice yua5 yun5 yum5, .int .i64 yuc, .int .i64 yue], .string sv]) (v := .agg #[.int .i64 yuk, .slice yua1 yun1 yum1, .slice yua2 yun2 yum2, .slice yua3 yun3 yum3, .slice yua4 yun4 yum4, .slice yua5 yun5 yum5, .int .i64 yuc, .int .i64 yue]) (show opAt (opsOf Try.f5 33) 7 = some (some 108, .extract (.tmp 101) 0, none) from by kernel_rfl) (by kernel_rfl) (by kernel_rfl) (by kernel_rfl) (by rfl) ?_
        refine run_extract (vs := #[.agg #[.int .i64 yuk, .slice yua1 yun1 yum1, .slice yua2 yun2 yum2, .slice yua3 yun3 yum3, .slice yua4 yun4 yum4, .slice yua5 yun5 yum5, .int .i64 yuc, .int .i64 yue], .string sv]) (v := .string sv) (show opAt (opsOf Try.f5 33) 8 = some (some 109, .extract (.tmp 101) 1, none) from by kernel_rfl) (by kernel_rfl) (by kernel_rfl) (by kernel_rfl) (by rfl) ?_
        refine run_store (w' := World.setRow _ n9 #[.int .i64 yuk, .slice yua1 yun1 yum1, .slice yua2 yun2 yum2, .slice yua3 yun3 yum3, .slice yua4 yun4 yum4, .slice yua5 yun5 yum5, .int .i64 yuc, .int .i64 yue]) (show opAt (opsOf Try.f5 33) 10 = some (none, .store 31 (.tmp 17) (.tmp 108), none) from by kernel_rfl) (by kernel_rfl) (by kernel_rfl) (by kernel_rfl) (store_vec8 N9.out.out (by simp [Value.oneCell'])) (⟨below_row H.out.1 G9.out _, fun q hq => row_old (H.out.2 q hq) (by have := F9_0.out; have := F9_1.out; rcases List.mem_cons.1 hq with rfl | hq; (simp only; omega); obtain rfl := List.mem_singleton.1 hq; simp only; omega)⟩) ?_
        refine run_asg (v := .string sv) (show opAt (opsOf Try.f5 33) 11 = some (some 18, .assign (.tmp 109), none) from by kernel_rfl) (by kernel_rfl) (by kernel_rfl) (by kernel_rfl) ?_
        refine run_done ?_
        simp only [putAll, Act.put, List.setIfInBounds_toArray, List.set_cons_zero, List.set_cons_succ]
        go_wp2_with fail
        go_meet
        exact ⟨_, _, rfl, rfl, ⟨row_set N9.out.out, (OU.out.own.rowO (by first | (left; have := UB.out; omega) | (right; have := NE9.out; omega))).wide LU.out (Nat.le_trans OU.out.hh (row_size _ _ _)), below_row H.out.1 G9.out _, G9.out⟩⟩
    · refine run_new (C := #[.int .i64 0, .slice none 0 0, .slice none 0 0, .slice none 0 0, .slice none 0 0, .slice none 0 0, .int .i64 0, .int .i64 0]) (show opAt (opsOf Try.f5 33) 9 = some (some 17, .alloc 31, none) from by kernel_rfl) (by kernel_rfl) (by kernel_rfl) new_vec (fun W9 n9 hW9 hn9 => ?_)
      subst hW9
      refine ⟨heldC_call H.out (below1 _ _), ?_⟩
      have N9 := Lib.hid (⟨blk_new _ _ hn9⟩ : NewB n9 31 #[.int .i64 0, .slice none 0 0, .slice none 0 0, .slice none 0 0, .slice none 0 0, .slice none 0 0, .int .i64 0, .int .i64 0] _)
      have G9 := Lib.hid (by rw [hn9]; exact H.out.1.size : w16.heap.size ≤ n9)
      have F9_0 := Lib.hid (by rw [hn9]; exact (Array.getElem?_eq_some_iff.1 (heldC_at H.out (List.Mem.head _))).1 : w.heap.size < n9)
      have F9_1 := Lib.hid (by rw [hn9]; exact (Array.getElem?_eq_some_iff.1 (heldC_at H.out (List.Mem.tail _ (List.Mem.head _)))).1 : (w.heap.size + 1) < n9)
      have H := Lib.hid (heldC_call H.out (below1 _ (.cells #[.int .i64 0, .slice none 0 0, .slice none 0 0, .slice none 0 0, .slice none 0 0, .slice none 0 0, .int .i64 0, .int .i64 0] 31)))
      have NE9 := Lib.hid hn9
      clear hn9
      refine run_call (args := [.agg #[.int .i64 p1k, .slice p1a1 p1n1 p1m1, .slice p1a2 p1n2 p1m2, .slice p1a3 p1n3 p1m3, .slice p1a4 p1n4 p1m4, .slice p1a5 p1n5 p1m5, .int .i64 p1c, .int .i64 p1e]]) (show opAt (opsOf Try.f5 33) 2 = some (some 104, .call { callee := .value (.func 16), args := [(.tmp 103)].toArray, argTypes := [26].toArray }, none) from by kernel_rfl) (by kernel_rfl) (by kernel_rfl) (by kernel_rfl) (by kernel_rfl) ?_
      refine (TO1.out _ (below_then B18.out H.out.1)).mono ?_
      rintro en rw1 ⟨yt1, rfl, ho, hb⟩
      refine ⟨_, rfl, heldC_call H.out hb, ?_⟩
      have H := Lib.hid (heldC_call H.out hb)
      have N9 := Lib.hid (N9.out.keep hb)
      have A1 := Lib.hid (ResV.vatH ho)
      clear ho hb
      refine run_call (args := [.agg #[.int .i64 p2k, .slice p2a1 p2n1 p2m1, .slice p2a2 p2n2 p2m2, .slice p2a3 p2n3 p2m3, .slice p2a4 p2n4 p2m4, .slice p2a5 p2n5 p2m5, .int .i64 p2c, .int .i64 p2e]]) (show opAt (opsOf Try.f5 33) 4 = some (some 106, .call { callee := .value (.func 16), args := [(.tmp 105)].toArray, argTypes := [26].toArray }, none) from by kernel_rfl) (by kernel_rfl) (by kernel_rfl) (by kernel_rfl) (by kernel_rfl) ?_
      refine (TO2.out _ (below_then B18.out H.out.1)).mono ?_
      rintro en rw2 ⟨yt2, rfl, ho, hb⟩
      refine ⟨_, rfl, heldC_call H.out hb, ?_⟩
      have H := Lib.hid (heldC_call H.out hb)
      have N9 := Lib.hid (N9.out.keep hb)
      have A1 := Lib.hid (A1.out.keep hb)
      have A2 := Lib.hid (ResV.vatH ho)
      clear ho hb
      refine run_call (args := [.string a0, yt1, yt2]) (show opAt (opsOf Try.f5 33) 5 = some (some 107, .call { callee := .value (.func 24), args := [(.tmp 102), (.tmp 104), (.tmp 106)].toArray, argTypes := [9, 31, 31].toArray }, none) from by kernel_rfl) (by kernel_rfl) (by kernel_rfl) (by kernel_rfl) (by kernel_rfl) ?_
      refine (IM.out _ yt1 yt2 A1.out.out A2.out.out).mono ?_
      rintro en rw3 ⟨yu, rfl, ho, hb⟩
      refine ⟨_, rfl, heldC_call H.out hb, ?_⟩
      obtain ⟨yuk, yua1, yun1, yum1, yua2, yun2, yum2, yua3, yun3, yum3, yua4, yun4, yum4, yua5, yun5, yum5, yuc, yue, rfl⟩ := ho.agg
      (try have UB := Lib.hid (Array.getElem?_eq_some_iff.1 N9.out.out).1)
      have LU := Lib.hid H.out.1.size
      have H := Lib.hid (heldC_call H.out hb)
      have N9 := Lib.hid (N9.out.keep hb)
      have A1 := Lib.hid (A1.out.keep hb)
      have A2 := Lib.hid (A2.out.keep hb)
      have OU := Lib.hid (⟨ho, Nat.le_refl _⟩ : OwnH 1 V _ _ _ _)
      clear ho hb
      refine run_mov (v := .tuple #[.agg #[.int .i64 yuk, .slice yua1 yun1 yum1, .slice yua2 yun2 yum2, .slice yua3 yun3 yum3, .slice yua4 yun4 yum4, .slice yua5 yun5 yum5, .int .i64 yuc, .int .i64 yue], .string sv]) (show opAt (opsOf Try.f5 33) 6 = some (some 101, .move (.tmp 107), none) from by kernel_rfl) (by kernel_rfl) (by kernel_rfl) (by kernel_rfl) ?_
      refine run_extract (vs := #[.agg #[.int .i64 yuk, .slice yua1 yun1 yum1, .slice yua2 yun2 yum2, .slice yua3 yun3 yum3, .slice yua4 yun4 yum4, .slice yua5 yun5 yum5, .int .i64 yuc, .int .i64 yue], .string sv]) (v := .agg #[.int .i64 yuk, .slice yua1 yun1 yum1, .slice yua2 yun2 yum2, .slice yua3 yun3 yum3, .slice yua4 yun4 yum4, .slice yua5 yun5 yum5, .int .i64 yuc, .int .i64 yue]) (show opAt (opsOf Try.f5 33) 7 = some (some 108, .extract (.tmp 101) 0, none) from by kernel_rfl) (by kernel_rfl) (by kernel_rfl) (by kernel_rfl) (by rfl) ?_
      refine run_extract (vs := #[.agg #[.int .i64 yuk, .slice yua1 yun1 yum1, .slice yua2 yun2 yum2, .slice yua3 yun3 yum3, .slice yua4 yun4 yum4, .slice yua5 yun5 yum5, .int .i64 yuc, .int .i64 yue], .string sv]) (v := .string sv) (show opAt (opsOf Try.f5 33) 8 = some (some 109, .extract (.tmp 101) 1, none) from by kernel_rfl) (by kernel_rfl) (by kernel_rfl) (by kernel_rfl) (by rfl) ?_
      refine run_store (w' := World.setRow _ n9 #[.int .i64 yuk, .slice yua1 yun1 yum1, .slice yua2 yun2 yum2, .slice yua3 yun3 yum3, .slice yua4 yun4 yum4, .slice yua5 yun5 yum5, .int .i64 yuc, .int .i64 yue]) (show opAt (opsOf Try.f5 33) 10 = some (none, .store 31 (.tmp 17) (.tmp 108), none) from by kernel_rfl) (by kernel_rfl) (by kernel_rfl) (by kernel_rfl) (store_vec8 N9.out.out (by simp [Value.oneCell'])) (⟨below_row H.out.1 G9.out _, fun q hq => row_old (H.out.2 q hq) (by have := F9_0.out; have := F9_1.out; rcases List.mem_cons.1 hq with rfl | hq; (simp only; omega); obtain rfl := List.mem_singleton.1 hq; simp only; omega)⟩) ?_
      refine run_asg (v := .string sv) (show opAt (opsOf Try.f5 33) 11 = some (some 18, .assign (.tmp 109), none) from by kernel_rfl) (by kernel_rfl) (by kernel_rfl) (by kernel_rfl) ?_
      refine run_done ?_
      simp only [putAll, Act.put, List.setIfInBounds_toArray, List.set_cons_zero, List.set_cons_succ]
      go_wp2_with fail
      go_meet
      exact ⟨_, _, rfl, rfl, ⟨row_set N9.out.out, (OU.out.own.rowO (by first | (left; have := UB.out; omega) | (right; have := NE9.out; omega))).wide LU.out (Nat.le_trans OU.out.hh (row_size _ _ _)), below_row H.out.1 G9.out _, G9.out⟩⟩
  obtain ⟨w17, rfl⟩ : ∃ u : World, u = wc := ⟨_, rfl⟩
  obtain ⟨gh, C, rfl, rfl, hm⟩ := hcut
  obtain ⟨hk, ha1, hn1, hm1, ha2, hn2, hm2, ha3, hn3, hm3, ha4, hn4, hm4, ha5, hn5, hm5, hc, he, rfl⟩ := hm.cells
  clear H
  have b := hm.below
  have Z19 := Lib.hid b.size
  have B19 := Lib.hid (below_then B18.out b)
  have Kp119 := Lib.hid (blk_below b Kp118.out)
  clear Kp118
  have Kp219 := Lib.hid (blk_below b Kp218.out)
  clear Kp218
  have Ku19 := Lib.hid (blk_below b Ku18.out)
  clear Ku18
  have Ou19 := Lib.hid (Ou18.out.below b Ouh18.out)
  have Ouh19 := Lib.hid (Nat.le_trans Ouh18.out b.size)
  clear Ou18 Ouh18
  have Og19 := Lib.hid (Og18.out.below b Ogh18.out)
  have Ogh19 := Lib.hid (Nat.le_trans Ogh18.out b.size)
  clear Og18 Ogh18
  have Kg19 := Lib.hid (blk_below b Kg18.out)
  clear Kg18
  clear b
  have ZSh := Lib.hid (Array.getElem?_eq_some_iff.1 hm.blk).1
  have Kh19 := Lib.hid (hm.blk)
  have Oh19 := Lib.hid (hm.own)
  have Ohh19 := Lib.hid ((Nat.le_refl _) : w17.heap.size ≤ w17.heap.size)
  clear hm
  obtain ⟨hk0, hk1, hk2, hk3, hk4, hk5, hk6, hk7⟩ := vec8 Kh19.out
  obtain ⟨uk0, uk1, uk2, uk3, uk4, uk5, uk6, uk7⟩ := vec8 Ku19.out
  go_wp2_with fail
  with_reducible refine (EQ.out _ _ _ (Oh19.out.vat Ohh19.out) (Ou19.out.vat Ouh19.out)).mono ?_
  rintro e w18 ⟨rfl, b⟩
  try clear hzh
  clear hk0 hk1 hk2 hk3 hk4 hk5 hk6 hk7
  try clear hzu
  clear uk0 uk1 uk2 uk3 uk4 uk5 uk6 uk7
  have Z20 := Lib.hid b.size
  have B20 := Lib.hid (below_then B19.out b)
  have Kp120 := Lib.hid (blk_below b Kp119.out)
  clear Kp119
  have Kp220 := Lib.hid (blk_below b Kp219.out)
  clear Kp219
  have Ku20 := Lib.hid (blk_below b Ku19.out)
  clear Ku19
  have Ou20 := Lib.hid (Ou19.out.below b Ouh19.out)
  have Ouh20 := Lib.hid (Nat.le_trans Ouh19.out b.size)
  clear Ou19 Ouh19
  have Og20 := Lib.hid (Og19.out.below b Ogh19.out)
  have Ogh20 := Lib.hid (Nat.le_trans Ogh19.out b.size)
  clear Og19 Ogh19
  have Kg20 := Lib.hid (blk_below b Kg19.out)
  clear Kg19
  have Kh20 := Lib.hid (blk_below b Kh19.out)
  clear Kh19
  have Oh20 := Lib.hid (Oh19.out.below b Ohh19.out)
  have Ohh20 := Lib.hid (Nat.le_trans Ohh19.out b.size)
  clear Oh19 Ohh19
  clear b
  obtain ⟨gk0, gk1, gk2, gk3, gk4, gk5, gk6, gk7⟩ := vec8 Kg20.out
  go_wp2_with fail
  with_reducible refine (HV.out _ _ _ _ Og20.out Ogh20.out).mono ?_
  rintro e w19 ⟨rfl, b⟩
  try clear hzg
  clear gk0 gk1 gk2 gk3 gk4 gk5 gk6 gk7
  have Z21 := Lib.hid b.size
  have B21 := Lib.hid (below_then B20.out b)
  have Kp121 := Lib.hid (blk_below b Kp120.out)
  clear Kp120
  have Kp221 := Lib.hid (blk_below b Kp220.out)
  clear Kp220
  have Ku21 := Lib.hid (blk_below b Ku20.out)
  clear Ku20
  have Ou21 := Lib.hid (Ou20.out.below b Ouh20.out)
  have Ouh21 := Lib.hid (Nat.le_trans Ouh20.out b.size)
  clear Ou20 Ouh20
  have Og21 := Lib.hid (Og20.out.below b Ogh20.out)
  have Ogh21 := Lib.hid (Nat.le_trans Ogh20.out b.size)
  clear Og20 Ogh20
  have Kg21 := Lib.hid (blk_below b Kg20.out)
  clear Kg20
  have Kh21 := Lib.hid (blk_below b Kh20.out)
  clear Kh20
  have Oh21 := Lib.hid (Oh20.out.below b Ohh20.out)
  have Ohh21 := Lib.hid (Nat.le_trans Ohh20.out b.size)
  clear Oh20 Ohh20
  clear b
  go_wp2
  go_ret
  exact ⟨rfl, B21.out⟩

set_option maxRecDepth 100000 in
theorem lifted (os : Os) (started : os.Started) (H : Type) (enc : TypeId × Value → H) :
    ReturnsInHanded {} Try.checked os 5 .any (Rows.fnExactArithmeticOfSpec.pre6 enc Try.prog Try.f5 Rows.fnExactArithmeticOfRow.domain false) (Rows.fnExactArithmeticOfSpec.post enc Try.prog Try.f5 false true false false) := by
  refine returnsInHanded_of_change (C := Try.checked) own started (by kernel_rfl) Try.func5
    (ChangeSpec.witness6 (enc := enc) (C := Try.checked) false ⟨#[], #[.string ByteArray.empty, .agg #[.int .i64 0, .slice none 0 0, .slice none 0 0, .slice none 0 0, .slice none 0 0, .slice none 0 0, .int .i64 0, .int .i64 0], .agg #[.int .i64 0, .slice none 0 0, .slice none 0 0, .slice none 0 0, .slice none 0 0, .slice none 0 0, .int .i64 0, .int .i64 0]], []⟩ 8 (by kernel_rfl) (by kernel_rfl) (by kernel_rfl) (by kernel_rfl)) ?_
  intro W base args ds gs before hval0 hW hcnd _
  have hval : ∀ (j : Nat) t v, Try.f5.params[j]? = some t → args[j]? = some v → Value.okWide Try.prog W .any base t v := hval0
  have hW' := hW
  obtain ⟨p, q, hA0, hV, rfl, hfz, hnd⟩ := hW
  have hA : DataW.TrodAll enc Try.prog W 0 (fun _ => true) true Try.f5.params.toList args.toList ds p := hA0
  rw [Try.params5] at hA hval
  obtain ⟨v0, vs0, d0, ds0, p0, q0, hargs0, rfl, rfl, h0, r0⟩ := trodAll_cons hA
  obtain ⟨v1, vs1, d1, ds1, p1, q1, hargs1, rfl, rfl, h1, r1⟩ := trodAll_cons r0
  obtain ⟨v2, vs2, d2, ds2, p2, q2, hargs2, rfl, rfl, h2, r2⟩ := trodAll_cons r1
  obtain ⟨hnil, rfl, rfl⟩ := trodAll_nil r2
  have eargs : args.toList = [v0, v1, v2] := by rw [hargs0, hargs1, hargs2, hnil]
  obtain rfl : args = #[v0, v1, v2] := Array.toList_inj.1 eargs
  obtain ⟨rfl, rfl⟩ := trodVars_none hV
  have k0 := h0
  have lt0 : ∀ x ∈ p0, x.block < W.heap.size := by obtain ⟨m, hm⟩ := k0; exact DataW.trod_lt m _ _ _ hm
  have k1 := h1
  have lt1 : ∀ x ∈ p1, x.block < W.heap.size := by obtain ⟨m, hm⟩ := k1; exact DataW.trod_lt m _ _ _ hm
  have k2 := h2
  have lt2 : ∀ x ∈ p2, x.block < W.heap.size := by obtain ⟨m, hm⟩ := k2; exact DataW.trod_lt m _ _ _ hm
  clear hA0 eargs hargs0 hargs1 hargs2
  obtain ⟨a0, rfl, e0, ep0, i0⟩ := open_string Try.underlying9 (hval 0 9 v0 rfl rfl) h0
  obtain ⟨d1, x1, hv1, hf1⟩ := vec_in (hval 1 26 v1 rfl rfl) h1
  obtain ⟨d2, x2, hv2, hf2⟩ := vec_in (hval 2 26 v2 rfl rfl) h2
  clear hval0
  refine (walk a0 i0 x1 d1 v1 x2 d2 v2 W hv1 hf1 hv2 hf2).mono fun e W' ⟨he, bel⟩ => ?_
  subst he
  have kp0 := Below.trod laidOut (show Try.prog.readableRec 9 = true by kernel_rfl) (of_decide_eq_true (by kernel_rfl)) k0 bel lt0
  have kp1 := Below.trod laidOut (show Try.prog.readableRec 26 = true by kernel_rfl) (of_decide_eq_true (by kernel_rfl)) k1 bel lt1
  have kp2 := Below.trod laidOut (show Try.prog.readableRec 26 = true by kernel_rfl) (of_decide_eq_true (by kernel_rfl)) k2 bel lt2
  exact ⟨_, rfl, _, _, _, [], _, [], hW', trodAll_mk1 (shut_bool Try.underlying4 _), (trodAll_cons_mk kp0 (trodAll_cons_mk kp1 (trodAll_cons_mk kp2 trodAll_mk0))), rfl, bel.frame _, fun h => by cases h⟩

theorem over : Rows.fnExactArithmeticOfRow.holds Try.pinned (OpenSpec.ofChange Rows.fnExactArithmeticOfSpec) :=
  OpenClaim.holds_of_wide 5 Try.f5 rfl rfl rfl rfl rfl rfl rfl ⟨rfl, rfl, rfl, rfl, rfl⟩ rfl rfl rfl rfl rfl (by kernel_rfl) Try.func5 (by kernel_rfl)
    (of_decide_eq_true (by kernel_rfl)) (by unfold Func.isWrapper; first | (rw [if_pos (by decide +kernel)]; kernel_rfl) | (rw [if_neg (by decide +kernel)]; exact ⟨rfl, rfl⟩))
    (fun os started H enc _ => lifted os started H enc)

theorem proved : Rows.FnExactArithmeticOfSaid := over
end Go.Proofs.Ytlnjjjoeblopeaa.fnExactArithmeticOf
