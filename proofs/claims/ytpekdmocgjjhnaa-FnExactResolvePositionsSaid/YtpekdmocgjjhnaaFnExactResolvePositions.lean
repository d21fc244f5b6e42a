/- Called with any arguments (ints, lists of strings, vectors), the law FnExactResolvePositions returns true and leaves everything as it was. No condition. -/
import Derived.Test.YtpekdmocgjjhnaaRows
import Derived.Test.YtpekdmocgjjhnaaMr2
import Derived.Test.YtpekdmocgjjhnaaMr1
import Derived.Test.YtpekdmocgjjhnaaVecIn
import Derived.WalkKit
import Derived.ProofKit
import Derived.OpenShut
import Derived.ShutString
import Derived.ChangeOld
import Derived.Carry
import Derived.Below
namespace Go.Proofs.Ytpekdmocgjjhnaa.fnExactResolvePositions
open Go.ChangeShapes Go.WideShapes Go.ChangeAt Go.RowKit
open Go.ChangeMaps (open_string shut_string)
set_option linter.unusedVariables false

theorem laidOut : laidOutB Try.prog = true := by kernel_rfl
theorem own : ownKnob Try.prog.godebug = none := by kernel_rfl

theorem texts_of_strs1 {B : Nat} {w : World} {a : Option Addr} {n : Nat} {f : Nat → ByteArray} (h : StrsAt B w a n f) : TextsAt 0 B w a ((List.range n).map f) := by
  intro i x hx
  rw [List.getElem?_map] at hx
  obtain ⟨k, hk, rfl⟩ := Option.map_eq_some_iff.1 hx
  obtain ⟨hlt, e⟩ := List.getElem?_eq_some_iff.1 hk
  have hlt' : i < n := by simpa using hlt
  obtain rfl : i = k := by simpa using e
  obtain ⟨b, off, e, h1, h2⟩ := h i hlt'
  exact ⟨b, off, e, Nat.zero_le _, h1, h2⟩
theorem rng_len1 (n : Nat) (f : Nat → ByteArray) : ((List.range n).map f).length = n := by simp
theorem resJ_of {l : List Int} {s : ByteArray} {w w' : World} {e : Ending} (h : ResZ l s w e w') : ResJ l.length (fun i => l.getD i 0) s w e w' := by
  obtain ⟨v, rfl, hz⟩ := h
  obtain ⟨a, c, rfl, hj⟩ := hz.ownJ
  exact ⟨a, c, rfl, hj, hz.below⟩
theorem rs_len (n : Int) (nms : List ByteArray) (v : Vec) : (rsZ n nms v).length ≤ 1048576 := by
  by_cases h : ValidV v
  · by_cases h2 : NmOk n nms
    · obtain ⟨k, items, parts, names, cls, levels, code, env⟩ := v
      rw [(rs_yes h h2).1]
      have hf : FlatOk k items parts.length names cls levels code env := h.1.flat
      have hn : n.toNat ≤ 40 := by obtain ⟨_, h3, _⟩ := h2; omega
      have hlen := hf.h_len
      by_cases h4 : 4 ≤ k
      · rw [(rk_list h4).1]; exact Nat.zero_le _
      · unfold lenV at hlen
        rw [if_neg (by omega)] at hlen
        have hk := hf.h_kind
        rcases (show k = 0 ∨ k = 1 ∨ k = 2 ∨ k = 3 by omega) with rfl | rfl | rfl | rfl
        · rw [rk_null.1]; exact Nat.zero_le _
        · rw [rk_lgc.1]
          have := lgP_len items (lgM items n.toNat)
          have : lgM items n.toNat ≤ 40 := by unfold lgM; split <;> omega
          omega
        · rw [rk_num.1]
          have hc := nmC_len items items.length
          by_cases he : nmE items = ⟨#[]⟩
          · rw [(nu_ok n.toNat he).1]
            by_cases g1 : NegIn (nmC items items.length)
            · by_cases g2 : AllNeg (nmC items items.length)
              · rw [(nm_minus n.toNat g1 g2).1]
                have := exZ_len (nmC items items.length) n.toNat
                omega
              · rw [(nm_mixed n.toNat g1 g2).1]; exact Nat.zero_le _
            · rw [(nm_plain n.toNat g1).1]; omega
          · rw [(nu_bad n.toNat he).1]; exact Nat.zero_le _
        · rw [rk_txt.1]
          by_cases g : AllT items
          · rw [(te_ok g).1, txP_len]; omega
          · rw [(te_bad g).1]; exact Nat.zero_le _
    · rw [(rs_names h h2).1]; exact Nat.zero_le _
  · rw [(rs_bad h).1]; exact Nat.zero_le _

set_option maxHeartbeats 4000000 in
set_option maxRecDepth 100000 in
theorem walk (a0 : Int) (i0 : -9223372036854775808 ≤ a0 ∧ a0 ≤ 9223372036854775807) (a1 : Option Addr) (n1 cap1 : Nat) (f1 : Nat → ByteArray) (x2 : Vec) (d2 : Nat) (y2 : Value) (w : World) (hs1 : StrsAt w.heap.size w a1 n1 f1) (hn1 : n1 ≤ maxLen) (hf1 : ∀ i, (f1 i).size ≤ maxLen) (hv2 : VecAt 0 w.heap.size w d2 x2 y2) (hf2 : Fits d2 x2) :
    Calls Try.prog 4 #[.int .i64 a0, .slice a1 n1 cap1, y2] w fun e w' => e = .returned (.bool true) ∧ Below w.heap.size w w' := by
  have S1 := Lib.hid hs1
  have hm1 : n1 ≤ 9223372036854775807 := hn1
  obtain ⟨W1, hW1⟩ : ∃ W1, n1 + sumF f1 n1 = W1 := ⟨_, rfl⟩
  have SZ1 := Lib.hid (fun (w1 : World) (hb : Below w.heap.size w w1) => ((szStrs a1 n1 cap1 1048576 f1 w.heap.size w1 (S1.out.below hb) hm1 (by omega) (by omega) (fun i _ => hf1 i)).mono (fun e w' h => by rw [szR_L, hW1] at h; exact ⟨h.1, h.2 ▸ Below.refl _ _⟩) :
    Calls Try.prog 12 #[.slice a1 n1 cap1, .int .i64 1048576] w1 (fun e w' => e = .returned (.int .i64 (szL 1048576 W1)) ∧ Below w1.heap.size w1 w')))
  clear hs1
  by_cases hbig : 1048576 < W1
  · rw [szL_no (show (1048576 : Int) < (W1 : Int) by omega)] at SZ1
    clear hbig hW1
    obtain ⟨p2k, p2a1, p2n1, p2m1, p2a2, p2n2, p2m2, p2a3, p2n3, p2m3, p2a4, p2n4, p2m4, p2a5, p2n5, p2m5, p2c, p2e, rfl⟩ := hv2.agg
    clear hv2 hf2
    go_enter Try.func4, Try.ntmps4
    go_wp2_with fail
    with_reducible refine (SZ1.out _ (below1 w _)).mono ?_
    rintro e w1 ⟨rfl, b⟩
    have B1 := Lib.hid (below_then (below1 w _) b)
    clear b
    go_wp2
    go_ret
    exact ⟨rfl, B1.out⟩
  rw [szL_yes (show (W1 : Int) ≤ 1048576 by omega)] at SZ1
  have SZ2 := Lib.hid (fun (w1 : World) (hb : Below w.heap.size w w1) => (szAll d2).out x2 y2 (1048576 - (W1 : Int)) 0 w.heap.size w1 (hv2.below hb (Nat.le_refl _)) hb.size hf2 (by omega) (by omega))
  by_cases hbig2 : 1048576 < W1 + wV d2 x2
  · rw [szL_no (show (1048576 - (W1 : Int)) < (wV d2 x2 : Int) by omega)] at SZ2
    have h0 : ¬ (1048576 - (W1 : Int)) < 0 := by omega
    clear hbig2 hW1
    obtain ⟨p2k, p2a1, p2n1, p2m1, p2a2, p2n2, p2m2, p2a3, p2n3, p2m3, p2a4, p2n4, p2m4, p2a5, p2n5, p2m5, p2c, p2e, rfl⟩ := hv2.agg
    clear hv2 hf2
    have KB := Lib.hid (blk_new w (.cells #[.int .i64 p2k, .slice p2a1 p2n1 p2m1, .slice p2a2 p2n2 p2m2, .slice p2a3 p2n3 p2m3, .slice p2a4 p2n4 p2m4, .slice p2a5 p2n5 p2m5, .int .i64 p2c, .int .i64 p2e] 26) rfl)
    go_enter Try.func4, Try.ntmps4
    go_wp2_with fail
    with_reducible refine (SZ1.out _ (below1 w _)).mono ?_
    rintro e w1 ⟨rfl, b⟩
    have B1 := Lib.hid (below_then (below1 w _) b)
    obtain ⟨k0, k1, k2, k3, k4, k5, k6, k7⟩ := vec8 (blk_below b KB.out)
    clear b KB
    go_wp2_with fail
    with_reducible refine (SZ2.out _ B1.out).mono ?_
    rintro e w2 ⟨rfl, b⟩
    have B2 := Lib.hid (below_then B1.out b)
    clear b
    go_wp2
    go_ret
    exact ⟨rfl, B2.out⟩
  rw [szL_yes (show (wV d2 x2 : Int) ≤ 1048576 - (W1 : Int) by omega)] at SZ2
  have hsm2 := small_of d2 x2 hf2 (by omega)
  have hcm2 := cntM_le d2 x2
  have hn1' : n1 ≤ 1048576 := by omega
  have TO1 := Lib.hid (fun (w1 : World) (hb : Below w.heap.size w w1) => toStrsR a1 n1 cap1 f1 w.heap.size w1 (S1.out.below hb) hb.size hn1')
  have TO2 := Lib.hid (fun (w1 : World) (hb : Below w.heap.size w w1) => toVecR d2 x2 y2 0 w.heap.size w1 (hv2.below hb (Nat.le_refl _)) hb.size hsm2)
  have QE1 := Lib.hid (fun (w1 : World) (x y : Option Addr) (hx : StrsAt w1.heap.size w1 x n1 f1) (hy : StrsAt w1.heap.size w1 y n1 f1) => eqStrsR x y n1 n1 n1 f1 w1.heap.size w1 hx hy hn1')
  have QX2 := Lib.hid (fun (w1 : World) (x y : Value) (h : VecAt 0 w1.heap.size w1 d2 x2 x) (k : VecAt 0 w1.heap.size w1 d2 x2 y) => (eqAll d2).out x2 x y 0 w1.heap.size 0 w1.heap.size w1 h (Nat.le_refl _) k (Nat.le_refl _) hf2)
  have MK1 := Lib.hid (fun (w1 : World) (x : Option Addr) (lo hi : Nat) (h : OwnS x n1 f1 lo hi w1) (_ : hi ≤ w1.heap.size) => (by
    have h := markStrsR x n1 n1 1 f1 lo hi w1 h hn1' (Nat.le_refl _) (by omega)
    rw [show (((1 : Nat) : Int) + (n1 : Int)) = ((1 + n1 : Nat) : Int) by omega] at h
    exact h : Calls Try.prog 18 #[.slice x n1 n1, .int .i64 1] w1 (fun e w' => e = .returned (.int .i64 ((1 + n1 : Nat) : Int)) ∧ Within lo hi w1 w')))
  have MX2 := Lib.hid (fun (w1 : World) (y : Value) (lo hi : Nat) (h : Own d2 x2 y lo hi w1) (hh : hi ≤ w1.heap.size) => markOwnK d2 x2 y (1 + n1) lo hi w1 h hh hsm2 (by omega) (by omega))
  have SP := Lib.hid (fun (w1 : World) (x : Option Addr) (y : Value) (hx : StrsAt w1.heap.size w1 x n1 f1) (hy : VecAt 0 w1.heap.size w1 d2 x2 y) => (by
    have h := specResolve d2 x2 y a0 ((List.range n1).map f1) x n1 0 w1.heap.size 0 w1.heap.size w1 hy (Nat.le_refl _) hsm2 (texts_of_strs1 hx) (Nat.le_refl _) (by rw [rng_len1]; omega)
    rw [rng_len1] at h
    exact h.mono (fun _ _ h => resJ_of h) : Calls Try.prog 13 #[.int .i64 a0, .slice x n1 n1, y] w1 (ResJ (rsZ a0 ((List.range n1).map f1) x2).length (fun i => (rsZ a0 ((List.range n1).map f1) x2).getD i 0) (rsS a0 ((List.range n1).map f1) x2) w1)))
  have IM := Lib.hid (fun (w1 : World) (x : Option Addr) (y : Value) (hx : StrsAt w1.heap.size w1 x n1 f1) (hy : VecAt 0 w1.heap.size w1 d2 x2 y) => (by
    have h := implResolve d2 x2 y a0 ((List.range n1).map f1) x n1 0 w1.heap.size 0 w1.heap.size w1 hy (Nat.le_refl _) hsm2 (texts_of_strs1 hx) (Nat.le_refl _) (by rw [rng_len1]; omega)
    rw [rng_len1] at h
    exact h.mono (fun _ _ h => resJ_of h) : Calls Try.prog 15 #[.int .i64 a0, .slice x n1 n1, y] w1 (ResJ (rsZ a0 ((List.range n1).map f1) x2).length (fun i => (rsZ a0 ((List.range n1).map f1) x2).getD i 0) (rsS a0 ((List.range n1).map f1) x2) w1)))
  have hnl := rs_len a0 ((List.range n1).map f1) x2
  obtain ⟨nl, hnl'⟩ : ∃ m, (rsZ a0 ((List.range n1).map f1) x2).length = m := ⟨_, rfl⟩
  obtain ⟨fl, hfl⟩ : ∃ f : Nat → Int, (fun i => (rsZ a0 ((List.range n1).map f1) x2).getD i 0) = f := ⟨_, rfl⟩
  obtain ⟨sv, hsv⟩ : ∃ s, rsS a0 ((List.range n1).map f1) x2 = s := ⟨_, rfl⟩
  rw [hnl', hfl, hsv] at SP IM
  rw [hnl'] at hnl
  clear hnl' hfl hsv
  have EQ := Lib.hid (fun (w1 : World) (x y : Option Addr) (cx cy : Nat) (hx : IntsAt w1.heap.size w1 x nl fl) (hy : IntsAt w1.heap.size w1 y nl fl) => eqIntsR x y nl cx cy fl w1.heap.size w1 hx hy (by omega))
  obtain ⟨fm, hfm⟩ : ∃ f : Nat → Int, (fun (i : Nat) => ((1 : Nat) : Int) + (i : Int)) = f := ⟨_, rfl⟩
  have MV := Lib.hid (fun (w1 : World) (x : Option Addr) (c lo hi : Nat) (h : OwnJ x nl fl lo hi w1) (_ : hi ≤ w1.heap.size) => (by
    have h := markJ x nl c 1 fl lo hi w1 h (by omega) (Nat.le_refl _) (by omega)
    rw [show (((1 : Nat) : Int) + (nl : Int)) = ((1 + nl : Nat) : Int) by omega, hfm] at h
    exact h : Calls Try.prog 19 #[.slice x nl c, .int .i64 1] w1 (fun e w' => e = .returned (.int .i64 ((1 + nl : Nat) : Int)) ∧ OwnJ x nl fm lo hi w' ∧ Within lo hi w1 w')))
  have HV := Lib.hid (fun (w1 : World) (x : Option Addr) (c : Nat) (h : IntsAt w1.heap.size w1 x nl fm) => (by
    have h := heldJ x nl c 1 w1.heap.size w1 (by rw [hfm]; exact h) (by omega) (by omega)
    rw [show (((1 : Nat) : Int) + (nl : Int)) = ((1 + nl : Nat) : Int) by omega] at h
    exact h.mono (fun e w' h => ⟨h.1, h.2 ▸ Below.refl _ _⟩) : Calls Try.prog 20 #[.slice x nl c, .int .i64 1] w1 (fun e w' => e = .returned (.int .i64 ((1 + nl : Nat) : Int)) ∧ Below w1.heap.size w1 w')))
  clear hfm
  obtain ⟨cl, hcl⟩ : ∃ c, 1 + nl = c := ⟨_, rfl⟩
  rw [hcl] at MV HV
  obtain ⟨c1, hc1⟩ : ∃ c, 1 + n1 = c := ⟨_, rfl⟩
  rw [hc1] at MK1 MX2
  obtain ⟨c2, hc2⟩ : ∃ c, c1 + cntM d2 x2 = c := ⟨_, rfl⟩
  rw [hc2] at MX2
  obtain ⟨q2, hq2⟩ : ∃ q, wV d2 x2 = q := ⟨_, rfl⟩
  rw [hq2] at SZ2 hbig2
  clear hcl hc1 hc2 hq2 hcm2 hsm2 hf2 hW1 hnl
  have h00 : ¬ (1048576 - (W1 : Int)) < 0 := by omega
  have h01 : ¬ (1048576 - (W1 : Int) - (q2 : Int)) < 0 := by omega
  obtain ⟨p2k, p2a1, p2n1, p2m1, p2a2, p2n2, p2m2, p2a3, p2n3, p2m3, p2a4, p2n4, p2m4, p2a5, p2n5, p2m5, p2c, p2e, rfl⟩ := hv2.agg
  clear hv2
  go_enter Try.func4, Try.ntmps4
  go_wp2_with fail
  obtain ⟨w1, hW⟩ : ∃ W, w.alloc (.cells #[.int .i64 p2k, .slice p2a1 p2n1 p2m1, .slice p2a2 p2n2 p2m2, .slice p2a3 p2n3 p2m3, .slice p2a4 p2n4 p2m4, .slice p2a5 p2n5 p2m5, .int .i64 p2c, .int .i64 p2e] 26) = W := ⟨_, rfl⟩
  have b : Below w.heap.size w w1 := hW ▸ below1 w _
  have kb2 : w1.heap[w.heap.size]? = some (.cells #[.int .i64 p2k, .slice p2a1 p2n1 p2m1, .slice p2a2 p2n2 p2m2, .slice p2a3 p2n3 p2m3, .slice p2a4 p2n4 p2m4, .slice p2a5 p2n5 p2m5, .int .i64 p2c, .int .i64 p2e] 26 (0, 0)) := hW ▸ blk_new w _ rfl
  rw [hW]
  clear hW
  have Z1 := Lib.hid b.size
  have B1 := Lib.hid (below_then (Below.refl _ _) b)
  clear b
  have ZSp2 := Lib.hid (Array.getElem?_eq_some_iff.1 kb2).1
  have Kp21 := Lib.hid (kb2)
  clear kb2
  with_reducible refine (SZ1.out _ B1.out).mono ?_
  rintro e w2 ⟨rfl, b⟩
  have Z2 := Lib.hid b.size
  have B2 := Lib.hid (below_then B1.out b)
  have Kp22 := Lib.hid (blk_below b Kp21.out)
  clear Kp21
  clear b
  obtain ⟨p2k0, p2k1, p2k2, p2k3, p2k4, p2k5, p2k6, p2k7⟩ := vec8 Kp22.out
  go_wp2_with fail
  with_reducible refine (SZ2.out _ B2.out).mono ?_
  rintro e w3 ⟨rfl, b⟩
  try clear hzp2
  clear p2k0 p2k1 p2k2 p2k3 p2k4 p2k5 p2k6 p2k7
  have Z3 := Lib.hid b.size
  have B3 := Lib.hid (below_then B2.out b)
  have Kp23 := Lib.hid (blk_below b Kp22.out)
  clear Kp22
  clear b
  go_upto_region 8 with (fail)
  have H := Lib.hid (show HeldC w3 w3 ([(w.heap.size, 26, #[.int .i64 p2k, .slice p2a1 p2n1 p2m1, .slice p2a2 p2n2 p2m2, .slice p2a3 p2n3 p2m3, .slice p2a4 p2n4 p2m4, .slice p2a5 p2n5 p2m5, .int .i64 p2c, .int .i64 p2e])]) from heldC_one (Below.refl _ _) Kp23.out)
  refine run_regionT (ops := (opsOf Try.f4 8)) (S := fun w' => HeldC w3 w' ([(w.heap.size, 26, #[.int .i64 p2k, .slice p2a1 p2n1 p2m1, .slice p2a2 p2n2 p2m2, .slice p2a3 p2n3 p2m3, .slice p2a4 p2n4 p2m4, .slice p2a5 p2n5 p2m5, .int .i64 p2c, .int .i64 p2e])])) (.leaf [(0, true), (1, true), (3, true), (2, false), (4, false), (5, false), (6, true), (7, true), (8, true), (9, true), (10, true)]) (by kernel_rfl) (by kernel_rfl) (by kernel_rfl) (by kernel_rfl) (by kernel_rfl) (fun _ _ _ _ _ h => h) (heldC_drew H.out) ?_
  have H := Lib.hid (heldC_drew H.out)
  refine run_mov (v := .int .i64 a0) (show opAt (opsOf Try.f4 8) 0 = some (some 30, .move (.tmp 0), none) from by kernel_rfl) (by kernel_rfl) (by kernel_rfl) (by kernel_rfl) ?_
  refine run_mov (v := .slice a1 n1 cap1) (show opAt (opsOf Try.f4 8) 1 = some (some 31, .move (.tmp 1), none) from by kernel_rfl) (by kernel_rfl) (by kernel_rfl) (by kernel_rfl) ?_
  refine runC_lvec (b := w.heap.size) (show opAt (opsOf Try.f4 8) 3 = some (some 33, .load 26 (.tmp 5), none) from by kernel_rfl) (by kernel_rfl) (by kernel_rfl) (by kernel_rfl) (List.Mem.head _) ?_
  refine run_call (args := [.slice a1 n1 cap1]) (show opAt (opsOf Try.f4 8) 2 = some (some 32, .call { callee := .value (.func 14), args := [(.tmp 31)].toArray, argTypes := [24].toArray }, none) from by kernel_rfl) (by kernel_rfl) (by kernel_rfl) (by kernel_rfl) (by kernel_rfl) ?_
  refine (TO1.out _ (below_then B3.out H.out.1)).mono ?_
  rintro en ra1 ⟨xt1, rfl, ho, hb⟩
  refine ⟨_, rfl, heldC_call H.out hb, ?_⟩
  have H := Lib.hid (heldC_call H.out hb)
  have A1 := Lib.hid (StrsH.mk (ho.at_ (Nat.le_refl _)))
  clear ho hb
  refine run_call (args := [.agg #[.int .i64 p2k, .slice p2a1 p2n1 p2m1, .slice p2a2 p2n2 p2m2, .slice p2a3 p2n3 p2m3, .slice p2a4 p2n4 p2m4, .slice p2a5 p2n5 p2m5, .int .i64 p2c, .int .i64 p2e]]) (show opAt (opsOf Try.f4 8) 4 = some (some 34, .call { callee := .value (.func 7), args := [(.tmp 33)].toArray, argTypes := [26].toArray }, none) from by kernel_rfl) (by kernel_rfl) (by kernel_rfl) (by kernel_rfl) (by kernel_rfl) ?_
  refine (TO2.out _ (below_then B3.out H.out.1)).mono ?_
  rintro en ra2 ⟨yt2, rfl, ho, hb⟩
  refine ⟨_, rfl, heldC_call H.out hb, ?_⟩
  have H := Lib.hid (heldC_call H.out hb)
  have A1 := Lib.hid (A1.out.keep hb)
  have A2 := Lib.hid (ResV.vatH ho)
  clear ho hb
  have LU := Lib.hid H.out.1.size
  refine run_call (args := [.int .i64 a0, .slice xt1 n1 n1, yt2]) (show opAt (opsOf Try.f4 8) 5 = some (some 35, .call { callee := .value (.func 13), args := [(.tmp 30), (.tmp 32), (.tmp 34)].toArray, argTypes := [3, 24, 31].toArray }, none) from by kernel_rfl) (by kernel_rfl) (by kernel_rfl) (by kernel_rfl) (by kernel_rfl) ?_
  refine (SP.out _ xt1 yt2 A1.out.out A2.out.out).mono ?_
  rintro en ra3 ⟨gu, cu, rfl, ho, hb⟩
  refine ⟨_, rfl, heldC_call H.out hb, ?_⟩
  have H := Lib.hid (heldC_call H.out hb)
  have OJ := Lib.hid (ho.wide LU.out (Nat.le_refl _))
  clear ho hb LU A1 A2
  refine run_mov (v := .tuple #[.slice gu nl cu, .string sv]) (show opAt (opsOf Try.f4 8) 6 = some (some 29, .move (.tmp 35), none) from by kernel_rfl) (by kernel_rfl) (by kernel_rfl) (by kernel_rfl) ?_
  refine run_extract (vs := #[.slice gu nl cu, .string sv]) (v := .slice gu nl cu) (show opAt (opsOf Try.f4 8) 7 = some (some 36, .extract (.tmp 29) 0, none) from by kernel_rfl) (by kernel_rfl) (by kernel_rfl) (by kernel_rfl) (by rfl) ?_
  refine run_extract (vs := #[.slice gu nl cu, .string sv]) (v := .string sv) (show opAt (opsOf Try.f4 8) 8 = some (some 37, .extract (.tmp 29) 1, none) from by kernel_rfl) (by kernel_rfl) (by kernel_rfl) (by kernel_rfl) (by rfl) ?_
  refine run_asg (v := .slice gu nl cu) (show opAt (opsOf Try.f4 8) 9 = some (some 8, .assign (.tmp 36), none) from by kernel_rfl) (by kernel_rfl) (by kernel_rfl) (by kernel_rfl) ?_
  refine run_asg (v := .string sv) (show opAt (opsOf Try.f4 8) 10 = some (some 9, .assign (.tmp 37), none) from by kernel_rfl) (by kernel_rfl) (by kernel_rfl) (by kernel_rfl) ?_
  refine run_done ?_
  simp only [putAll, Act.put, List.setIfInBounds_toArray, List.set_cons_zero, List.set_cons_succ]
  have b := H.out.1
  clear H
  have Z4 := Lib.hid b.size
  have B4 := Lib.hid (below_then B3.out b)
  have Kp24 := Lib.hid (blk_below b Kp23.out)
  clear Kp23
  clear b
  have Ou4 := Lib.hid (OJ.out)
  have Ouh4 := Lib.hid ((Nat.le_refl _) : ra3.heap.size ≤ ra3.heap.size)
  clear OJ
  go_wp2_with fail
  with_reducible refine (TO1.out _ B4.out).mono ?_
  rintro e w4 ⟨xx1, rfl, ho, b⟩
  have Z5 := Lib.hid b.size
  have B5 := Lib.hid (below_then B4.out b)
  have Kp25 := Lib.hid (blk_below b Kp24.out)
  clear Kp24
  have Ou5 := Lib.hid (Ou4.out.below b Ouh4.out)
  have Ouh5 := Lib.hid (Nat.le_trans Ouh4.out b.size)
  clear Ou4 Ouh4
  clear b
  have Ax15 := Lib.hid (ho)
  have Ax1h5 := Lib.hid ((Nat.le_refl _) : w4.heap.size ≤ w4.heap.size)
  clear ho
  obtain ⟨p2k0, p2k1, p2k2, p2k3, p2k4, p2k5, p2k6, p2k7⟩ := vec8 Kp25.out
  go_wp2_with fail
  with_reducible refine (TO2.out _ B5.out).mono ?_
  rintro e w5 ⟨y, rfl, ho, b⟩
  obtain ⟨x2k, x2a1, x2n1, x2m1, x2a2, x2n2, x2m2, x2a3, x2n3, x2m3, x2a4, x2n4, x2m4, x2a5, x2n5, x2m5, x2c, x2e, rfl⟩ := ho.agg
  try clear hzp2
  clear p2k0 p2k1 p2k2 p2k3 p2k4 p2k5 p2k6 p2k7
  have Z6 := Lib.hid b.size
  have B6 := Lib.hid (below_then B5.out b)
  have Kp26 := Lib.hid (blk_below b Kp25.out)
  clear Kp25
  have Ou6 := Lib.hid (Ou5.out.below b Ouh5.out)
  have Ouh6 := Lib.hid (Nat.le_trans Ouh5.out b.size)
  clear Ou5 Ouh5
  have Ax16 := Lib.hid (Ax15.out.below b Ax1h5.out)
  have Ax1h6 := Lib.hid (Nat.le_trans Ax1h5.out b.size)
  clear Ax15 Ax1h5
  clear b
  have Ox26 := Lib.hid (ho)
  have Ox2h6 := Lib.hid ((Nat.le_refl _) : w5.heap.size ≤ w5.heap.size)
  clear ho
  go_wp2_with fail
  obtain ⟨w6, hW⟩ : ∃ W, w5.alloc (.cells #[.int .i64 x2k, .slice x2a1 x2n1 x2m1, .slice x2a2 x2n2 x2m2, .slice x2a3 x2n3 x2m3, .slice x2a4 x2n4 x2m4, .slice x2a5 x2n5 x2m5, .int .i64 x2c, .int .i64 x2e] 31) = W := ⟨_, rfl⟩
  have b : Below w5.heap.size w5 w6 := hW ▸ below1 w5 _
  have kb : w6.heap[w5.heap.size]? = some (.cells #[.int .i64 x2k, .slice x2a1 x2n1 x2m1, .slice x2a2 x2n2 x2m2, .slice x2a3 x2n3 x2m3, .slice x2a4 x2n4 x2m4, .slice x2a5 x2n5 x2m5, .int .i64 x2c, .int .i64 x2e] 31 (0, 0)) := hW ▸ blk_new w5 _ rfl
  rw [hW]
  clear hW
  have Z7 := Lib.hid b.size
  have B7 := Lib.hid (below_then B6.out b)
  have Kp27 := Lib.hid (blk_below b Kp26.out)
  clear Kp26
  have Ou7 := Lib.hid (Ou6.out.below b Ouh6.out)
  have Ouh7 := Lib.hid (Nat.le_trans Ouh6.out b.size)
  clear Ou6 Ouh6
  have Ax17 := Lib.hid (Ax16.out.below b Ax1h6.out)
  have Ax1h7 := Lib.hid (Nat.le_trans Ax1h6.out b.size)
  clear Ax16 Ax1h6
  have Ox27 := Lib.hid (Ox26.out.below b Ox2h6.out)
  have Ox2h7 := Lib.hid (Nat.le_trans Ox2h6.out b.size)
  clear Ox26 Ox2h6
  clear b
  have ZS7 := Lib.hid (Array.getElem?_eq_some_iff.1 kb).1
  have Kx27 := Lib.hid (kb)
  clear kb
  with_reducible refine (IM.out _ xx1 _ (Ax17.out.at_ Ax1h7.out) (Ox27.out.vat Ox2h7.out)).mono ?_
  rintro e w7 ⟨gg, cg, rfl, ho, b⟩
  have Z8 := Lib.hid b.size
  have B8 := Lib.hid (below_then B7.out b)
  have Kp28 := Lib.hid (blk_below b Kp27.out)
  clear Kp27
  have Ou8 := Lib.hid (Ou7.out.below b Ouh7.out)
  have Ouh8 := Lib.hid (Nat.le_trans Ouh7.out b.size)
  clear Ou7 Ouh7
  have Ax18 := Lib.hid (Ax17.out.below b Ax1h7.out)
  have Ax1h8 := Lib.hid (Nat.le_trans Ax1h7.out b.size)
  clear Ax17 Ax1h7
  have Ox28 := Lib.hid (Ox27.out.below b Ox2h7.out)
  have Ox2h8 := Lib.hid (Nat.le_trans Ox2h7.out b.size)
  clear Ox27 Ox2h7
  have Kx28 := Lib.hid (blk_below b Kx27.out)
  clear Kx27
  clear b
  have Og8 := Lib.hid (ho)
  have Ogh8 := Lib.hid ((Nat.le_refl _) : w7.heap.size ≤ w7.heap.size)
  clear ho
  go_wp2_with fail
  with_reducible refine (EQ.out _ _ _ _ _ (Og8.out.at_ Ogh8.out) (Ou8.out.at_ Ouh8.out)).mono ?_
  rintro e w8 ⟨rfl, b⟩
  have Z9 := Lib.hid b.size
  have B9 := Lib.hid (below_then B8.out b)
  have Kp29 := Lib.hid (blk_below b Kp28.out)
  clear Kp28
  have Ou9 := Lib.hid (Ou8.out.below b Ouh8.out)
  have Ouh9 := Lib.hid (Nat.le_trans Ouh8.out b.size)
  clear Ou8 Ouh8
  have Ax19 := Lib.hid (Ax18.out.below b Ax1h8.out)
  have Ax1h9 := Lib.hid (Nat.le_trans Ax1h8.out b.size)
  clear Ax18 Ax1h8
  have Ox29 := Lib.hid (Ox28.out.below b Ox2h8.out)
  have Ox2h9 := Lib.hid (Nat.le_trans Ox2h8.out b.size)
  clear Ox28 Ox2h8
  have Kx29 := Lib.hid (blk_below b Kx28.out)
  clear Kx28
  have Og9 := Lib.hid (Og8.out.below b Ogh8.out)
  have Ogh9 := Lib.hid (Nat.le_trans Ogh8.out b.size)
  clear Og8 Ogh8
  clear b
  go_wp2_with fail
  with_reducible refine (TO1.out _ B9.out).mono ?_
  rintro e w9 ⟨xq1, rfl, ho, b⟩
  have Z10 := Lib.hid b.size
  have B10 := Lib.hid (below_then B9.out b)
  have Kp210 := Lib.hid (blk_below b Kp29.out)
  clear Kp29
  have Ou10 := Lib.hid (Ou9.out.below b Ouh9.out)
  have Ouh10 := Lib.hid (Nat.le_trans Ouh9.out b.size)
  clear Ou9 Ouh9
  have Ax110 := Lib.hid (Ax19.out.below b Ax1h9.out)
  have Ax1h10 := Lib.hid (Nat.le_trans Ax1h9.out b.size)
  clear Ax19 Ax1h9
  have Ox210 := Lib.hid (Ox29.out.below b Ox2h9.out)
  have Ox2h10 := Lib.hid (Nat.le_trans Ox2h9.out b.size)
  clear Ox29 Ox2h9
  have Kx210 := Lib.hid (blk_below b Kx29.out)
  clear Kx29
  have Og10 := Lib.hid (Og9.out.below b Ogh9.out)
  have Ogh10 := Lib.hid (Nat.le_trans Ogh9.out b.size)
  clear Og9 Ogh9
  clear b
  have Aq110 := Lib.hid (ho)
  have Aq1h10 := Lib.hid ((Nat.le_refl _) : w9.heap.size ≤ w9.heap.size)
  clear ho
  go_wp2_with fail
  with_reducible refine (QE1.out _ _ _ (Ax110.out.at_ Ax1h10.out) (Aq110.out.at_ Aq1h10.out)).mono ?_
  rintro e w10 ⟨rfl, b⟩
  have Z11 := Lib.hid b.size
  have B11 := Lib.hid (below_then B10.out b)
  have Kp211 := Lib.hid (blk_below b Kp210.out)
  clear Kp210
  have Ou11 := Lib.hid (Ou10.out.below b Ouh10.out)
  have Ouh11 := Lib.hid (Nat.le_trans Ouh10.out b.size)
  clear Ou10 Ouh10
  have Ax111 := Lib.hid (Ax110.out.below b Ax1h10.out)
  have Ax1h11 := Lib.hid (Nat.le_trans Ax1h10.out b.size)
  clear Ax110 Ax1h10
  have Ox211 := Lib.hid (Ox210.out.below b Ox2h10.out)
  have Ox2h11 := Lib.hid (Nat.le_trans Ox2h10.out b.size)
  clear Ox210 Ox2h10
  have Kx211 := Lib.hid (blk_below b Kx210.out)
  clear Kx210
  have Og11 := Lib.hid (Og10.out.below b Ogh10.out)
  have Ogh11 := Lib.hid (Nat.le_trans Ogh10.out b.size)
  clear Og10 Ogh10
  have Aq111 := Lib.hid (Aq110.out.below b Aq1h10.out)
  have Aq1h11 := Lib.hid (Nat.le_trans Aq1h10.out b.size)
  clear Aq110 Aq1h10
  clear b
  clear Aq111 Aq1h11
  go_wp2
  have H := Lib.hid (heldC_two (Below.refl _ _) Kx211.out Kp211.out)
  refine run_region (ops := (opsOf Try.f4 16)) (S := fun w' => HeldC w10 w' ([(w5.heap.size, 31, #[.int .i64 x2k, .slice x2a1 x2n1 x2m1, .slice x2a2 x2n2 x2m2, .slice x2a3 x2n3 x2m3, .slice x2a4 x2n4 x2m4, .slice x2a5 x2n5 x2m5, .int .i64 x2c, .int .i64 x2e]), (w.heap.size, 26, #[.int .i64 p2k, .slice p2a1 p2n1 p2m1, .slice p2a2 p2n2 p2m2, .slice p2a3 p2n3 p2m3, .slice p2a4 p2n4 p2m4, .slice p2a5 p2n5 p2m5, .int .i64 p2c, .int .i64 p2e])])) [(0, true), (1, true), (2, false), (3, false), (4, true)] (by kernel_rfl) (by kernel_rfl) (by kernel_rfl) (by kernel_rfl) (by kernel_rfl) (fun _ _ _ _ _ h => h) (heldC_drew H.out) ?_
  have H := Lib.hid (heldC_drew H.out)
  refine runC_vec (b := w5.heap.size) (show opAt (opsOf Try.f4 16) 0 = some (some 63, .load 31 (.tmp 11), none) from by kernel_rfl) (by kernel_rfl) (by kernel_rfl) (by kernel_rfl) (List.Mem.head _) ?_
  refine runC_lvec (b := w.heap.size) (show opAt (opsOf Try.f4 16) 1 = some (some 64, .load 26 (.tmp 5), none) from by kernel_rfl) (by kernel_rfl) (by kernel_rfl) (by kernel_rfl) (List.Mem.tail _ (List.Mem.head _)) ?_
  refine run_call (args := [.agg #[.int .i64 p2k, .slice p2a1 p2n1 p2m1, .slice p2a2 p2n2 p2m2, .slice p2a3 p2n3 p2m3, .slice p2a4 p2n4 p2m4, .slice p2a5 p2n5 p2m5, .int .i64 p2c, .int .i64 p2e]]) (show opAt (opsOf Try.f4 16) 2 = some (some 65, .call { callee := .value (.func 7), args := [(.tmp 64)].toArray, argTypes := [26].toArray }, none) from by kernel_rfl) (by kernel_rfl) (by kernel_rfl) (by kernel_rfl) (by kernel_rfl) ?_
  refine (TO2.out _ (below_then B11.out H.out.1)).mono ?_
  rintro en rcw1 ⟨yq, rfl, ho, hb⟩
  refine ⟨_, rfl, heldC_call H.out hb, ?_⟩
  have Oyq := Lib.hid ho
  have H := Lib.hid (heldC_call H.out hb)
  clear ho hb
  refine run_call (args := [.agg #[.int .i64 x2k, .slice x2a1 x2n1 x2m1, .slice x2a2 x2n2 x2m2, .slice x2a3 x2n3 x2m3, .slice x2a4 x2n4 x2m4, .slice x2a5 x2n5 x2m5, .int .i64 x2c, .int .i64 x2e], yq]) (show opAt (opsOf Try.f4 16) 3 = some (some 66, .call { callee := .value (.func 9), args := [(.tmp 63), (.tmp 65)].toArray, argTypes := [31, 31].toArray }, none) from by kernel_rfl) (by kernel_rfl) (by kernel_rfl) (by kernel_rfl) (by kernel_rfl) ?_
  refine (QX2.out _ _ _ ((Ox211.out.below H.out.1 Ox2h11.out).vat (Nat.le_trans Ox2h11.out H.out.1.size)) (Oyq.out.vat (Nat.le_refl _))).mono ?_
  rintro en rcw2 ⟨rfl, hb⟩
  refine ⟨_, rfl, heldC_call H.out hb, ?_⟩
  have H := Lib.hid (heldC_call H.out hb)
  clear hb
  refine run_not (b := true) (show opAt (opsOf Try.f4 16) 4 = some (some 67, .unOp .not 4 (.tmp 66), none) from by kernel_rfl) (by kernel_rfl) (by kernel_rfl) (by kernel_rfl) ?_
  refine run_done ?_
  simp only [putAll, Act.put, List.setIfInBounds_toArray, List.set_cons_zero, List.set_cons_succ]
  have b := H.out.1
  clear H Oyq
  have Z12 := Lib.hid b.size
  have B12 := Lib.hid (below_then B11.out b)
  have Kp212 := Lib.hid (blk_below b Kp211.out)
  clear Kp211
  have Ou12 := Lib.hid (Ou11.out.below b Ouh11.out)
  have Ouh12 := Lib.hid (Nat.le_trans Ouh11.out b.size)
  clear Ou11 Ouh11
  have Ax112 := Lib.hid (Ax111.out.below b Ax1h11.out)
  have Ax1h12 := Lib.hid (Nat.le_trans Ax1h11.out b.size)
  clear Ax111 Ax1h11
  have Ox212 := Lib.hid (Ox211.out.below b Ox2h11.out)
  have Ox2h12 := Lib.hid (Nat.le_trans Ox2h11.out b.size)
  clear Ox211 Ox2h11
  have Kx212 := Lib.hid (blk_below b Kx211.out)
  clear Kx211
  have Og12 := Lib.hid (Og11.out.below b Ogh11.out)
  have Ogh12 := Lib.hid (Nat.le_trans Ogh11.out b.size)
  clear Og11 Ogh11
  clear b
  go_wp2_with fail
  with_reducible refine (MK1.out _ _ _ _ Ax112.out Ax1h12.out).mono ?_
  rintro e w11 ⟨rfl, t⟩
  have Z13 := Lib.hid t.size
  have B13 := Lib.hid (B12.out.trans (t.below (Nat.le_trans (Nat.le_trans (Nat.le_trans Z1.out Z2.out) Z3.out) Z4.out) B12.out.size))
  have Kp213 := Lib.hid (t.blk (.inl (Nat.lt_of_lt_of_le ZSp2.out (Nat.le_trans (Nat.le_trans Z2.out Z3.out) Z4.out))) Kp212.out)
  clear Kp212
  have Ou13 := Lib.hid (Ou12.out.within t (.inl (Nat.le_refl _)) Ouh12.out)
  have Ouh13 := Lib.hid (Nat.le_trans Ouh12.out t.size)
  clear Ou12 Ouh12
  have Ox213 := Lib.hid (Ox212.out.within t (.inr (Nat.le_refl _)) Ox2h12.out)
  have Ox2h13 := Lib.hid (Nat.le_trans Ox2h12.out t.size)
  clear Ox212 Ox2h12
  have Kx213 := Lib.hid (t.blk (.inr Z6.out) Kx212.out)
  clear Kx212
  have Og13 := Lib.hid (Og12.out.within t (.inr (Nat.le_trans Z6.out Z7.out)) Ogh12.out)
  have Ogh13 := Lib.hid (Nat.le_trans Ogh12.out t.size)
  clear Og12 Ogh12
  clear Ax112 Ax1h12
  clear t
  obtain ⟨x2k0, x2k1, x2k2, x2k3, x2k4, x2k5, x2k6, x2k7⟩ := vec8 Kx213.out
  go_wp2_with fail
  with_reducible refine (MX2.out _ _ _ _ Ox213.out Ox2h13.out).mono ?_
  rintro e w12 ⟨rfl, t⟩
  try clear hzx2
  clear x2k0 x2k1 x2k2 x2k3 x2k4 x2k5 x2k6 x2k7
  have Z14 := Lib.hid t.size
  have B14 := Lib.hid (B13.out.trans (t.below (Nat.le_trans (Nat.le_trans (Nat.le_trans (Nat.le_trans Z1.out Z2.out) Z3.out) Z4.out) Z5.out) B13.out.size))
  have Kp214 := Lib.hid (t.blk (.inl (Nat.lt_of_lt_of_le ZSp2.out (Nat.le_trans (Nat.le_trans (Nat.le_trans Z2.out Z3.out) Z4.out) Z5.out))) Kp213.out)
  clear Kp213
  have Ou14 := Lib.hid (Ou13.out.within t (.inl Z5.out) Ouh13.out)
  have Ouh14 := Lib.hid (Nat.le_trans Ouh13.out t.size)
  clear Ou13 Ouh13
  have Kx214 := Lib.hid (t.blk (.inr (Nat.le_refl _)) Kx213.out)
  clear Kx213
  have Og14 := Lib.hid (Og13.out.within t (.inr Z7.out) Ogh13.out)
  have Ogh14 := Lib.hid (Nat.le_trans Ogh13.out t.size)
  clear Og13 Ogh13
  clear Ox213 Ox2h13
  clear t
  clear Kx214
  go_wp2_with fail
  with_reducible refine (EQ.out _ _ _ _ _ (Og14.out.at_ Ogh14.out) (Ou14.out.at_ Ouh14.out)).mono ?_
  rintro e w13 ⟨rfl, b⟩
  have Z15 := Lib.hid b.size
  have B15 := Lib.hid (below_then B14.out b)
  have Kp215 := Lib.hid (blk_below b Kp214.out)
  clear Kp214
  have Ou15 := Lib.hid (Ou14.out.below b Ouh14.out)
  have Ouh15 := Lib.hid (Nat.le_trans Ouh14.out b.size)
  clear Ou14 Ouh14
  have Og15 := Lib.hid (Og14.out.below b Ogh14.out)
  have Ogh15 := Lib.hid (Nat.le_trans Ogh14.out b.size)
  clear Og14 Ogh14
  clear b
  go_wp2_with fail
  with_reducible refine (MV.out _ _ _ _ _ Og15.out Ogh15.out).mono ?_
  rintro e w14 ⟨rfl, ho, t⟩
  have Z16 := Lib.hid t.size
  have B16 := Lib.hid (B15.out.trans (t.below (Nat.le_trans (Nat.le_trans (Nat.le_trans (Nat.le_trans (Nat.le_trans (Nat.le_trans Z1.out Z2.out) Z3.out) Z4.out) Z5.out) Z6.out) Z7.out) B15.out.size))
  have Kp216 := Lib.hid (t.blk (.inl (Nat.lt_of_lt_of_le ZSp2.out (Nat.le_trans (Nat.le_trans (Nat.le_trans (Nat.le_trans (Nat.le_trans Z2.out Z3.out) Z4.out) Z5.out) Z6.out) Z7.out))) Kp215.out)
  clear Kp215
  have Ou16 := Lib.hid (Ou15.out.within t (.inl (Nat.le_trans (Nat.le_trans Z5.out Z6.out) Z7.out)) Ouh15.out)
  have Ouh16 := Lib.hid (Nat.le_trans Ouh15.out t.size)
  clear Ou15 Ouh15
  have Og16 := Lib.hid ho
  have Ogh16 := Lib.hid (Nat.le_trans Ogh15.out t.size)
  clear Og15 Ogh15 ho
  clear t
  go_wp2_with fail
  with_reducible refine (HV.out _ _ _ (Og16.out.at_ Ogh16.out)).mono ?_
  rintro e w15 ⟨rfl, b⟩
  have Z17 := Lib.hid b.size
  have B17 := Lib.hid (below_then B16.out b)
  have Kp217 := Lib.hid (blk_below b Kp216.out)
  clear Kp216
  have Ou17 := Lib.hid (Ou16.out.below b Ouh16.out)
  have Ouh17 := Lib.hid (Nat.le_trans Ouh16.out b.size)
  clear Ou16 Ouh16
  have Og17 := Lib.hid (Og16.out.below b Ogh16.out)
  have Ogh17 := Lib.hid (Nat.le_trans Ogh16.out b.size)
  clear Og16 Ogh16
  clear b
  go_upto_region 31 with (fail)
  have H := Lib.hid (show HeldC w15 w15 ([(w.heap.size, 26, #[.int .i64 p2k, .slice p2a1 p2n1 p2m1, .slice p2a2 p2n2 p2m2, .slice p2a3 p2n3 p2m3, .slice p2a4 p2n4 p2m4, .slice p2a5 p2n5 p2m5, .int .i64 p2c, .int .i64 p2e])]) from heldC_one (Below.refl _ _) Kp217.out)
  refine run_regionT (ops := (opsOf Try.f4 31)) (S := fun w' => HeldC w15 w' ([(w.heap.size, 26, #[.int .i64 p2k, .slice p2a1 p2n1 p2m1, .slice p2a2 p2n2 p2m2, .slice p2a3 p2n3 p2m3, .slice p2a4 p2n4 p2m4, .slice p2a5 p2n5 p2m5, .int .i64 p2c, .int .i64 p2e])])) (.leaf [(0, true), (1, true), (3, true), (2, false), (4, false), (5, false), (6, true), (7, true), (8, true), (9, true), (10, true)]) (by kernel_rfl) (by kernel_rfl) (by kernel_rfl) (by kernel_rfl) (by kernel_rfl) (fun _ _ _ _ _ h => h) (heldC_drew H.out) ?_
  have H := Lib.hid (heldC_drew H.out)
  refine run_mov (v := .int .i64 a0) (show opAt (opsOf Try.f4 31) 0 = some (some 99, .move (.tmp 0), none) from by kernel_rfl) (by kernel_rfl) (by kernel_rfl) (by kernel_rfl) ?_
  refine run_mov (v := .slice a1 n1 cap1) (show opAt (opsOf Try.f4 31) 1 = some (some 100, .move (.tmp 1), none) from by kernel_rfl) (by kernel_rfl) (by kernel_rfl) (by kernel_rfl) ?_
  refine runC_lvec (b := w.heap.size) (show opAt (opsOf Try.f4 31) 3 = some (some 102, .load 26 (.tmp 5), none) from by kernel_rfl) (by kernel_rfl) (by kernel_rfl) (by kernel_rfl) (List.Mem.head _) ?_
  refine run_call (args := [.slice a1 n1 cap1]) (show opAt (opsOf Try.f4 31) 2 = some (some 101, .call { callee := .value (.func 14), args := [(.tmp 100)].toArray, argTypes := [24].toArray }, none) from by kernel_rfl) (by kernel_rfl) (by kernel_rfl) (by kernel_rfl) (by kernel_rfl) ?_
  refine (TO1.out _ (below_then B17.out H.out.1)).mono ?_
  rintro en rb1 ⟨xt1, rfl, ho, hb⟩
  refine ⟨_, rfl, heldC_call H.out hb, ?_⟩
  have H := Lib.hid (heldC_call H.out hb)
  have A1 := Lib.hid (StrsH.mk (ho.at_ (Nat.le_refl _)))
  clear ho hb
  refine run_call (args := [.agg #[.int .i64 p2k, .slice p2a1 p2n1 p2m1, .slice p2a2 p2n2 p2m2, .slice p2a3 p2n3 p2m3, .slice p2a4 p2n4 p2m4, .slice p2a5 p2n5 p2m5, .int .i64 p2c, .int .i64 p2e]]) (show opAt (opsOf Try.f4 31) 4 = some (some 103, .call { callee := .value (.func 7), args := [(.tmp 102)].toArray, argTypes := [26].toArray }, none) from by kernel_rfl) (by kernel_rfl) (by kernel_rfl) (by kernel_rfl) (by kernel_rfl) ?_
  refine (TO2.out _ (below_then B17.out H.out.1)).mono ?_
  rintro en rb2 ⟨yt2, rfl, ho, hb⟩
  refine ⟨_, rfl, heldC_call H.out hb, ?_⟩
  have H := Lib.hid (heldC_call H.out hb)
  have A1 := Lib.hid (A1.out.keep hb)
  have A2 := Lib.hid (ResV.vatH ho)
  clear ho hb
  have LU := Lib.hid H.out.1.size
  refine run_call (args := [.int .i64 a0, .slice xt1 n1 n1, yt2]) (show opAt (opsOf Try.f4 31) 5 = some (some 104, .call { callee := .value (.func 15), args := [(.tmp 99), (.tmp 101), (.tmp 103)].toArray, argTypes := [3, 24, 31].toArray }, none) from by kernel_rfl) (by kernel_rfl) (by kernel_rfl) (by kernel_rfl) (by kernel_rfl) ?_
  refine (IM.out _ xt1 yt2 A1.out.out A2.out.out).mono ?_
  rintro en rb3 ⟨gh, ch, rfl, ho, hb⟩
  refine ⟨_, rfl, heldC_call H.out hb, ?_⟩
  have H := Lib.hid (heldC_call H.out hb)
  have OJ := Lib.hid (ho.wide LU.out (Nat.le_refl _))
  clear ho hb LU A1 A2
  refine run_mov (v := .tuple #[.slice gh nl ch, .string sv]) (show opAt (opsOf Try.f4 31) 6 = some (some 98, .move (.tmp 104), none) from by kernel_rfl) (by kernel_rfl) (by kernel_rfl) (by kernel_rfl) ?_
  refine run_extract (vs := #[.slice gh nl ch, .string sv]) (v := .slice gh nl ch) (show opAt (opsOf Try.f4 31) 7 = some (some 105, .extract (.tmp 98) 0, none) from by kernel_rfl) (by kernel_rfl) (by kernel_rfl) (by kernel_rfl) (by rfl) ?_
  refine run_extract (vs := #[.slice gh nl ch, .string sv]) (v := .string sv) (show opAt (opsOf Try.f4 31) 8 = some (some 106, .extract (.tmp 98) 1, none) from by kernel_rfl) (by kernel_rfl) (by kernel_rfl) (by kernel_rfl) (by rfl) ?_
  refine run_asg (v := .slice gh nl ch) (show opAt (opsOf Try.f4 31) 9 = some (some 17, .assign (.tmp 105), none) from by kernel_rfl) (by kernel_rfl) (by kernel_rfl) (by kernel_rfl) ?_
  refine run_asg (v := .string sv) (show opAt (opsOf Try.f4 31) 10 = some (some 18, .assign (.tmp 106), none) from by kernel_rfl) (by kernel_rfl) (by kernel_rfl) (by kernel_rfl) ?_
  refine run_done ?_
  simp only [putAll, Act.put, List.setIfInBounds_toArray, List.set_cons_zero, List.set_cons_succ]
  have b := H.out.1
  clear H
  have Z18 := Lib.hid b.size
  have B18 := Lib.hid (below_then B17.out b)
  have Kp218 := Lib.hid (blk_below b Kp217.out)
  clear Kp217
  have Ou18 := Lib.hid (Ou17.out.below b Ouh17.out)
  have Ouh18 := Lib.hid (Nat.le_trans Ouh17.out b.size)
  clear Ou17 Ouh17
  have Og18 := Lib.hid (Og17.out.below b Ogh17.out)
  have Ogh18 := Lib.hid (Nat.le_trans Ogh17.out b.size)
  clear Og17 Ogh17
  clear b
  have Oh18 := Lib.hid (OJ.out)
  have Ohh18 := Lib.hid ((Nat.le_refl _) : rb3.heap.size ≤ rb3.heap.size)
  clear OJ
  go_wp2_with fail
  with_reducible refine (EQ.out _ _ _ _ _ (Oh18.out.at_ Ohh18.out) (Ou18.out.at_ Ouh18.out)).mono ?_
  rintro e w16 ⟨rfl, b⟩
  have Z19 := Lib.hid b.size
  have B19 := Lib.hid (below_then B18.out b)
  have Kp219 := Lib.hid (blk_below b Kp218.out)
  clear Kp218
  have Ou19 := Lib.hid (Ou18.out.below b Ouh18.out)
  have Ouh19 := Lib.hid (Nat.le_trans Ouh18.out b.size)
  clear Ou18 Ouh18
  have Og19 := Lib.hid (Og18.out.below b Ogh18.out)
  have Ogh19 := Lib.hid (Nat.le_trans Ogh18.out b.size)
  clear Og18 Ogh18
  have Oh19 := Lib.hid (Oh18.out.below b Ohh18.out)
  have Ohh19 := Lib.hid (Nat.le_trans Ohh18.out b.size)
  clear Oh18 Ohh18
  clear b
  go_wp2_with fail
  with_reducible refine (HV.out _ _ _ (Og19.out.at_ Ogh19.out)).mono ?_
  rintro e w17 ⟨rfl, b⟩
  have Z20 := Lib.hid b.size
  have B20 := Lib.hid (below_then B19.out b)
  have Kp220 := Lib.hid (blk_below b Kp219.out)
  clear Kp219
  have Ou20 := Lib.hid (Ou19.out.below b Ouh19.out)
  have Ouh20 := Lib.hid (Nat.le_trans Ouh19.out b.size)
  clear Ou19 Ouh19
  have Og20 := Lib.hid (Og19.out.below b Ogh19.out)
  have Ogh20 := Lib.hid (Nat.le_trans Ogh19.out b.size)
  clear Og19 Ogh19
  have Oh20 := Lib.hid (Oh19.out.below b Ohh19.out)
  have Ohh20 := Lib.hid (Nat.le_trans Ohh19.out b.size)
  clear Oh19 Ohh19
  clear b
  go_wp2
  go_ret
  exact ⟨rfl, B20.out⟩

set_option maxRecDepth 100000 in
theorem lifted (os : Os) (started : os.Started) (H : Type) (enc : TypeId × Value → H) :
    ReturnsInHanded {} Try.checked os 4 .any (Rows.fnExactResolvePositionsSpec.pre6 enc Try.prog Try.f4 Rows.fnExactResolvePositionsRow.domain false) (Rows.fnExactResolvePositionsSpec.post enc Try.prog Try.f4 false true false false) := by
  refine returnsInHanded_of_change (C := Try.checked) own started (by kernel_rfl) Try.func4
    (ChangeSpec.witness6 (enc := enc) (C := Try.checked) false ⟨#[], #[.int .i64 0, .slice none 0 0, .agg #[.int .i64 0, .slice none 0 0, .slice none 0 0, .slice none 0 0, .slice none 0 0, .slice none 0 0, .int .i64 0, .int .i64 0]], []⟩ 8 (by kernel_rfl) (by kernel_rfl) (by kernel_rfl) (by kernel_rfl)) ?_
  intro W base args ds gs before hval0 hW hcnd _
  have hval : ∀ (j : Nat) t v, Try.f4.params[j]? = some t → args[j]? = some v → Value.okWide Try.prog W .any base t v := hval0
  have hW' := hW
  obtain ⟨p, q, hA0, hV, rfl, hfz, hnd⟩ := hW
  have hA : DataW.TrodAll enc Try.prog W 0 (fun _ => true) true Try.f4.params.toList args.toList ds p := hA0
  rw [Try.params4] at hA hval
  obtain ⟨v0, vs0, d0, ds0, p0, q0, hargs0, rfl, rfl, h0, r0⟩ := trodAll_cons hA
  obtain ⟨v1, vs1, d1, ds1, p1, q1, hargs1, rfl, rfl, h1, r1⟩ := trodAll_cons r0
  obtain ⟨v2, vs2, d2, ds2, p2, q2, hargs2, rfl, rfl, h2, r2⟩ := trodAll_cons r1
  obtain ⟨hnil, rfl, rfl⟩ := trodAll_nil r2
  have eargs : args.toList = [v0, v1, v2] := by rw [hargs0, hargs1, hargs2, hnil]
  obtain rfl : args = #[v0, v1, v2] := Array.toList_inj.1 eargs
  obtain ⟨rfl, rfl⟩ := trodVars_none hV
  have k0 := h0
  have lt0 : ∀ x ∈ p0, x.block < W.heap.size := by obtain ⟨m, hm⟩ := k0; exact DataW.trod_lt m _ _ _ hm
  have k1 := h1
  have lt1 : ∀ x ∈ p1, x.block < W.heap.size := by obtain ⟨m, hm⟩ := k1; exact DataW.trod_lt m _ _ _ hm
  have k2 := h2
  have lt2 : ∀ x ∈ p2, x.block < W.heap.size := by obtain ⟨m, hm⟩ := k2; exact DataW.trod_lt m _ _ _ hm
  clear hA0 eargs hargs0 hargs1 hargs2
  obtain ⟨a0, rfl, e0, ep0, wf0⟩ := open_int Try.underlying3 (hval 0 3 v0 rfl rfl) h0
  have i0 := bounds_i64 wf0
  obtain ⟨a1, n1, cap1, rfl⟩ := okWide_slice Try.underlying24 (hval 1 24 v1 rfl rfl)
  obtain ⟨f1, hs1, hn1, hf1⟩ : ∃ f : Nat → ByteArray, StrsAt W.heap.size W a1 n1 f ∧ n1 ≤ maxLen ∧ ∀ i, (f i).size ≤ maxLen := by
    obtain ⟨fuel, hf⟩ := h1
    exact strs_in hf
  obtain ⟨d2, x2, hv2, hf2⟩ := vec_in (hval 2 26 v2 rfl rfl) h2
  clear hval0
  refine (walk a0 i0 a1 n1 cap1 f1 x2 d2 v2 W hs1 hn1 hf1 hv2 hf2).mono fun e W' ⟨he, bel⟩ => ?_
  subst he
  have kp0 := Below.trod laidOut (show Try.prog.readableRec 3 = true by kernel_rfl) (of_decide_eq_true (by kernel_rfl)) k0 bel lt0
  have kp1 := Below.trod laidOut (show Try.prog.readableRec 24 = true by kernel_rfl) (of_decide_eq_true (by kernel_rfl)) k1 bel lt1
  have kp2 := Below.trod laidOut (show Try.prog.readableRec 26 = true by kernel_rfl) (of_decide_eq_true (by kernel_rfl)) k2 bel lt2
  exact ⟨_, rfl, _, _, _, [], _, [], hW', trodAll_mk1 (shut_bool Try.underlying4 _), (trodAll_cons_mk kp0 (trodAll_cons_mk kp1 (trodAll_cons_mk kp2 trodAll_mk0))), rfl, bel.frame _, fun h => by cases h⟩

theorem over : Rows.fnExactResolvePositionsRow.holds Try.pinned (OpenSpec.ofChange Rows.fnExactResolvePositionsSpec) :=
  OpenClaim.holds_of_wide 4 Try.f4 rfl rfl rfl rfl rfl rfl rfl ⟨rfl, rfl, rfl, rfl, rfl⟩ rfl rfl rfl rfl rfl (by kernel_rfl) Try.func4 (by kernel_rfl)
    (of_decide_eq_true (by kernel_rfl)) (by unfold Func.isWrapper; first | (rw [if_pos (by decide +kernel)]; kernel_rfl) | (rw [if_neg (by decide +kernel)]; exact ⟨rfl, rfl⟩))
    (fun os started H enc _ => lifted os started H enc)

theorem proved : Rows.FnExactResolvePositionsSaid := over
end Go.Proofs.Ytpekdmocgjjhnaa.fnExactResolvePositions
