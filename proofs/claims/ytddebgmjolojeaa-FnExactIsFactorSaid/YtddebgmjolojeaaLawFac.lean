/- The exact laws on one vector whose result is a number or a truth value: walks over contracts of both sides. -/
import Derived.Test.YtddebgmjolojeaaRows
import Derived.Test.YtddebgmjolojeaaVecIn
import Derived.Test.YtddebgmjolojeaaVecEq
import Derived.Test.YtddebgmjolojeaaVecTo
import Derived.Test.YtddebgmjolojeaaVecMath
import Derived.Test.YtddebgmjolojeaaRegV2
import Derived.WalkKit
import Derived.Lib.Hide
namespace Go.Proofs.Ytddebgmjolojeaa
open Go.RowKit
set_option maxRecDepth 100000
set_option linter.unusedVariables false

set_option maxHeartbeats 2000000 in
theorem lawIsFactor (x0 : Vec) (d0 : Nat) (y0 : Value) (w : World) (hv0 : VecAt 0 w.heap.size w d0 x0 y0) (hf0 : Fits d0 x0) (r : Bool)
    (SP : ∀ (y : Value) (w1 : World), VecAt 0 w1.heap.size w1 d0 x0 y → Small d0 x0 → Calls Try.prog 5 #[y] w1 fun e w' => e = .returned (.bool r) ∧ Below w1.heap.size w1 w')
    (IM : ∀ (y : Value) (w1 : World), VecAt 0 w1.heap.size w1 d0 x0 y → Small d0 x0 → Calls Try.prog 7 #[y] w1 fun e w' => e = .returned (.bool r) ∧ Below w1.heap.size w1 w') :
    Calls Try.prog 3 #[y0] w fun e w' => e = .returned (.bool true) ∧ Below w.heap.size w w' := by
  have SZ := Lib.hid (fun (w1 : World) (hb : Below w.heap.size w w1) => (szAll d0).out x0 y0 1048576 0 w.heap.size w1 (hv0.below hb (Nat.le_refl _)) hb.size hf0 (by omega) (by omega))
  by_cases hbig : 1048576 < wV d0 x0
  · rw [szL_no (show (1048576 : Int) < (wV d0 x0 : Int) by omega)] at SZ
    clear hbig SP IM
    obtain ⟨kk, items, parts, names, cls, levels, code, env⟩ := x0
    obtain ⟨d', ai, ci, ap, cp, an, cn, ac, cc, al, cl, ed, rfl, hI, hN, hC, hL, hP⟩ := vecAt_open hv0
    clear hv0 hf0 hI hN hC hL hP ed
    go_enter Try.func3, Try.ntmps3
    go_wp2_with fail
    with_reducible refine (SZ.out _ (below1 w _)).mono ?_
    rintro e w1 ⟨rfl, b⟩
    have B1 := Lib.hid (below_then (below1 w _) b)
    clear b
    go_wp2
    go_ret
    exact ⟨rfl, B1.out⟩
  have hsm := small_of d0 x0 hf0 (by omega)
  rw [szL_yes (show (wV d0 x0 : Int) ≤ 1048576 by omega)] at SZ
  have TO := Lib.hid (fun (w1 : World) (hb : Below w.heap.size w w1) => (toAll d0).out x0 y0 0 w.heap.size w1 (hv0.below hb (Nat.le_refl _)) hb.size hsm)
  have S := Lib.hid (fun (w1 : World) (y : Value) (h : VecAt 0 w1.heap.size w1 d0 x0 y) => SP y w1 h hsm)
  have I := Lib.hid (fun (w1 : World) (y : Value) (h : VecAt 0 w1.heap.size w1 d0 x0 y) => IM y w1 h hsm)
  have EQ := Lib.hid (fun (w1 : World) (x y : Value) (h : VecAt 0 w1.heap.size w1 d0 x0 x) (k : VecAt 0 w1.heap.size w1 d0 x0 y) => (eqAll d0).out x0 x y 0 w1.heap.size 0 w1.heap.size w1 h (Nat.le_refl _) k (Nat.le_refl _) hf0)
  clear SP IM hsm
  obtain ⟨q, hq⟩ : ∃ q, wV d0 x0 = q := ⟨_, rfl⟩
  rw [hq] at SZ hbig
  clear hq
  obtain ⟨X0, hX⟩ : ∃ X, x0 = X := ⟨_, rfl⟩
  rw [hX] at TO S I EQ
  clear hf0 hX
  obtain ⟨kk, items, parts, names, cls, levels, code, env⟩ := x0
  obtain ⟨d', ai, ci, ap, cp, an, cn, ac, cc, al, cl, ed, rfl, hI, hN, hC, hL, hP⟩ := vecAt_open hv0
  clear hv0 hI hN hC hL hP ed
  go_enter Try.func3, Try.ntmps3
  go_wp2_with fail
  have B0 := Lib.hid (below1 w (.cells #[.int .i64 kk, .slice ai items.length ci, .slice ap parts.length cp, .slice an names.length cn, .slice ac cls.length cc, .slice al levels.length cl, .int .i64 code, .int .i64 env] 26))
  have K0 := Lib.hid (blk_new w (.cells #[.int .i64 kk, .slice ai items.length ci, .slice ap parts.length cp, .slice an names.length cn, .slice ac cls.length cc, .slice al levels.length cl, .int .i64 code, .int .i64 env] 26) rfl)
  with_reducible refine (SZ.out _ B0.out).mono ?_
  rintro e w1 ⟨rfl, b⟩
  have B1 := Lib.hid (below_then B0.out b)
  have K1 := Lib.hid (blk_below b K0.out)
  clear b
  obtain ⟨k0, k1, k2, k3, k4, k5, k6, k7⟩ := vec8 K1.out
  go_wp2_with fail
  with_reducible refine (TO.out _ B1.out).mono ?_
  rintro e w2 ⟨y1, F1, rfl, O1, nd1, rg1, b⟩
  have VA := Lib.hid (O1.vecAt (lo := 0) (hi := w2.heap.size) _ _ _ _ (fun b hb => ⟨Nat.zero_le _, (rg1 b hb).2⟩))
  have B2 := Lib.hid (below_then B1.out b)
  have K2 := Lib.hid (blk_below b K1.out)
  clear b O1 nd1 rg1 k0 k1 k2 k3 k4 k5 k6 k7
  go_wp2_with fail
  with_reducible refine (S.out _ _ VA.out).mono ?_
  rintro e w2' ⟨rfl, b⟩
  have B2' := Lib.hid (below_then B2.out b)
  have K2' := Lib.hid (blk_below b K2.out)
  clear b VA
  obtain ⟨k0, k1, k2, k3, k4, k5, k6, k7⟩ := vec8 K2'.out
  go_wp2_with fail
  with_reducible refine (TO.out _ B2'.out).mono ?_
  rintro e w3 ⟨y2, F2, rfl, O2, nd2, rg2, b⟩
  obtain ⟨zk, a1, n1, m1, a2, n2, m2, a3, n3, m3, a4, n4, m4, a5, n5, m5, zc, ze, rfl⟩ := O2.agg
  have B3 := Lib.hid (below_then B2'.out b)
  have K3 := Lib.hid (blk_below b K2'.out)
  have VX := Lib.hid (O2.vecAt (lo := 0) (hi := w3.heap.size) _ _ _ _ (fun b hb => ⟨Nat.zero_le _, (rg2 b hb).2⟩))
  clear b nd2 rg2 O2 k0 k1 k2 k3 k4 k5 k6 k7
  go_wp2_with fail
  obtain ⟨W4, hW4⟩ : ∃ W, w3.alloc (.cells #[.int .i64 zk, .slice a1 n1 m1, .slice a2 n2 m2, .slice a3 n3 m3, .slice a4 n4 m4, .slice a5 n5 m5, .int .i64 zc, .int .i64 ze] 32) = W := ⟨_, rfl⟩
  have b4 : Below w3.heap.size w3 W4 := hW4 ▸ below1 w3 _
  have G4 : W4.heap[w3.heap.size]? = some (.cells #[.int .i64 zk, .slice a1 n1 m1, .slice a2 n2 m2, .slice a3 n3 m3, .slice a4 n4 m4, .slice a5 n5 m5, .int .i64 zc, .int .i64 ze] 32 (0, 0)) := hW4 ▸ blk_new w3 _ rfl
  rw [hW4]
  have B4 := Lib.hid (below_then B3.out b4)
  have K4 := Lib.hid (blk_below b4 K3.out)
  have J4 := Lib.hid G4
  have V4 := Lib.hid ((VX.out.below b4 (Nat.le_refl _)).wide (lo' := 0) (hi' := W4.heap.size) (Nat.le_refl _) b4.size)
  clear hW4 G4 b4
  with_reducible refine (I.out _ _ V4.out).mono ?_
  rintro e w5 ⟨rfl, b⟩
  have B5 := Lib.hid (below_then B4.out b)
  have K5 := Lib.hid (blk_below b K4.out)
  have J5 := Lib.hid (blk_below b J4.out)
  have O2K := Lib.hid (fun (w' : World) (hb : Below w5.heap.size w5 w') => (V4.out.below (below_then b hb) (Nat.le_refl _)).wide (lo' := 0) (hi' := w'.heap.size) (Nat.le_refl _) (Nat.le_trans b.size hb.size))
  clear b
  go_wp2
  have H := Lib.hid (heldC_two B5.out J5.out K5.out)
  have BD := Lib.hid (below_drew' (Below.refl w5.heap.size w5))
  refine run_region (ops := (opsOf Try.f3 10)) (S := fun w' => HeldC w w' ([(w3.heap.size, 32, #[.int .i64 zk, .slice a1 n1 m1, .slice a2 n2 m2, .slice a3 n3 m3, .slice a4 n4 m4, .slice a5 n5 m5, .int .i64 zc, .int .i64 ze]), (w.heap.size, 26, #[.int .i64 kk, .slice ai items.length ci, .slice ap parts.length cp, .slice an names.length cn, .slice ac cls.length cc, .slice al levels.length cl, .int .i64 code, .int .i64 env])])) [(0, true), (1, true), (2, false), (3, false), (4, true)] (by kernel_rfl) (by kernel_rfl) (by kernel_rfl) (by kernel_rfl) (by kernel_rfl) (fun _ _ _ _ _ h => h) (heldC_drew H.out) ?_
  have H := Lib.hid (heldC_drew H.out)
  refine runC_vec (b := w3.heap.size) (show opAt (opsOf Try.f3 10) 0 = some (some 22, .load 32 (.tmp 5), none) from by kernel_rfl) (by kernel_rfl) (by kernel_rfl) (by kernel_rfl) (List.Mem.head _) ?_
  refine runC_lvec (b := w.heap.size) (show opAt (opsOf Try.f3 10) 1 = some (some 23, .load 26 (.tmp 1), none) from by kernel_rfl) (by kernel_rfl) (by kernel_rfl) (by kernel_rfl) (List.Mem.tail _ (List.Mem.head _)) ?_
  refine run_call (args := [.agg #[.int .i64 kk, .slice ai items.length ci, .slice ap parts.length cp, .slice an names.length cn, .slice ac cls.length cc, .slice al levels.length cl, .int .i64 code, .int .i64 env]]) (show opAt (opsOf Try.f3 10) 2 = some (some 24, .call { callee := .value (.func 6), args := [(.tmp 23)].toArray, argTypes := [26].toArray }, none) from by kernel_rfl) (by kernel_rfl) (by kernel_rfl) (by kernel_rfl) (by kernel_rfl) ?_
  refine (TO.out _ H.out.1).mono ?_
  rintro en rw1 ⟨y3, F3, rfl, O3, nd3, rg3, hb⟩
  refine ⟨_, rfl, heldC_call H.out hb, ?_⟩
  have QB := Lib.hid (H.out.1.size)
  have X2 := Lib.hid (O2K.out _ (below_then BD.out hb))
  have H := Lib.hid (heldC_call H.out hb)
  have VA3 := Lib.hid (O3.vecAt (lo := 0) (hi := rw1.heap.size) _ _ _ _ (fun b hb' => ⟨Nat.zero_le _, (rg3 b hb').2⟩))
  clear O3 nd3 rg3 hb
  refine run_call (args := [.agg #[.int .i64 zk, .slice a1 n1 m1, .slice a2 n2 m2, .slice a3 n3 m3, .slice a4 n4 m4, .slice a5 n5 m5, .int .i64 zc, .int .i64 ze], y3]) (show opAt (opsOf Try.f3 10) 3 = some (some 25, .call { callee := .value (.func 8), args := [(.tmp 22), (.tmp 24)].toArray, argTypes := [32, 32].toArray }, none) from by kernel_rfl) (by kernel_rfl) (by kernel_rfl) (by kernel_rfl) (by kernel_rfl) ?_
  refine (EQ.out _ _ _ X2.out VA3.out).mono ?_
  rintro en rw2 ⟨rfl, hb⟩
  refine ⟨_, rfl, heldC_call H.out hb, ?_⟩
  have H := Lib.hid (heldC_call H.out hb)
  clear hb
  refine run_not (b := true) (show opAt (opsOf Try.f3 10) 4 = some (some 26, .unOp .not 4 (.tmp 25), none) from by kernel_rfl) (by kernel_rfl) (by kernel_rfl) (by kernel_rfl) ?_
  refine run_done ?_
  simp only [putAll, Act.put, List.setIfInBounds_toArray, List.set_cons_zero, List.set_cons_succ]
  go_wp2
  go_ret
  exact ⟨rfl, H.out.1⟩
end Go.Proofs.Ytddebgmjolojeaa
