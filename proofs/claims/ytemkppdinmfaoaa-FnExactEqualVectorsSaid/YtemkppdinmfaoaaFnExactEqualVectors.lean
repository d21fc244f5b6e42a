/- Called with any arguments (vectors, vectors), the law FnExactEqualVectors returns true and leaves everything as it was. No condition. -/
import Derived.Test.YtemkppdinmfaoaaRows
import Derived.Test.YtemkppdinmfaoaaVecIn
import Derived.Test.YtemkppdinmfaoaaVecEq
import Derived.Test.YtemkppdinmfaoaaVecTo
import Derived.Test.YtemkppdinmfaoaaVecMath
import Derived.Test.YtemkppdinmfaoaaVecSameE
import Derived.Test.YtemkppdinmfaoaaRegV2
import Derived.WalkKit
import Derived.ProofKit
import Derived.OpenShut
import Derived.ShutString
import Derived.ChangeOld
import Derived.Carry
import Derived.Below
namespace Go.Proofs.Ytemkppdinmfaoaa.fnExactEqualVectors
open Go.ChangeShapes Go.WideShapes Go.ChangeAt Go.RowKit
open Go.ChangeMaps (open_string shut_string)
set_option linter.unusedVariables false

theorem laidOut : laidOutB Try.prog = true := by kernel_rfl
theorem own : ownKnob Try.prog.godebug = none := by kernel_rfl

set_option maxHeartbeats 4000000 in
set_option maxRecDepth 100000 in
theorem walk (x0 : Vec) (d0 : Nat) (y0 : Value) (x1 : Vec) (d1 : Nat) (y1 : Value) (w : World) (hv0 : VecAt 0 w.heap.size w d0 x0 y0) (hf0 : Fits d0 x0) (hv1 : VecAt 0 w.heap.size w d1 x1 y1) (hf1 : Fits d1 x1) :
    Calls Try.prog 11 #[y0, y1] w fun e w' => e = .returned (.bool true) ∧ Below w.heap.size w w' := by
  have SZ := Lib.hid (fun (w1 : World) (hb : Below w.heap.size w w1) => (szAll d0).out x0 y0 1048576 0 w.heap.size w1 (hv0.below hb (Nat.le_refl _)) hb.size hf0 (by omega) (by omega))
  have SZ' := Lib.hid (fun (l : Int) (h0 : 0 ≤ l) (h1 : l ≤ 1048576) (w1 : World) (hb : Below w.heap.size w w1) => (szAll d1).out x1 y1 l 0 w.heap.size w1 (hv1.below hb (Nat.le_refl _)) hb.size hf1 h0 h1)
  by_cases hbig : 1048576 < wV d0 x0
  · rw [szL_no (show (1048576 : Int) < (wV d0 x0 : Int) by omega)] at SZ
    clear hbig SZ'
    obtain ⟨kk, items, parts, names, cls, levels, code, env⟩ := x0
    obtain ⟨kk', items', parts', names', cls', levels', code', env'⟩ := x1
    obtain ⟨d', ai, ci, ap, cp, an, cn, ac, cc, al, cl, ed, rfl, hI, hN, hC, hL, hP⟩ := vecAt_open hv0
    obtain ⟨e', ai', ci', ap', cp', an', cn', ac', cc', al', cl', ed', rfl, hI', hN', hC', hL', hP'⟩ := vecAt_open hv1
    clear hv0 hf0 hI hN hC hL hP ed hv1 hf1 hI' hN' hC' hL' hP' ed'
    go_enter Try.func11, Try.ntmps11
    go_wp2_with fail
    with_reducible refine (SZ.out _ (below2 w _ _)).mono ?_
    rintro e w1 ⟨rfl, b⟩
    have B1 := Lib.hid (below_then (below2 w _ _) b)
    clear b
    go_wp2
    go_ret
    exact ⟨rfl, B1.out⟩
  have hsm := small_of d0 x0 hf0 (by omega)
  rw [szL_yes (show (wV d0 x0 : Int) ≤ 1048576 by omega)] at SZ
  have SB := Lib.hid (SZ'.out (1048576 - (wV d0 x0 : Int)) (by omega) (by omega))
  clear SZ'
  by_cases hbig' : (1048576 : Int) - (wV d0 x0 : Int) < (wV d1 x1 : Int)
  · rw [szL_no hbig'] at SB
    obtain ⟨q, hq⟩ : ∃ q, wV d0 x0 = q := ⟨_, rfl⟩
    rw [hq] at SZ SB hbig
    clear hbig' hsm hq
    obtain ⟨kk, items, parts, names, cls, levels, code, env⟩ := x0
    obtain ⟨kk', items', parts', names', cls', levels', code', env'⟩ := x1
    obtain ⟨d', ai, ci, ap, cp, an, cn, ac, cc, al, cl, ed, rfl, hI, hN, hC, hL, hP⟩ := vecAt_open hv0
    obtain ⟨e', ai', ci', ap', cp', an', cn', ac', cc', al', cl', ed', rfl, hI', hN', hC', hL', hP'⟩ := vecAt_open hv1
    clear hv0 hf0 hI hN hC hL hP ed hv1 hf1 hI' hN' hC' hL' hP' ed'
    go_enter Try.func11, Try.ntmps11
    go_wp2_with fail
    have B0 := Lib.hid (below2 w (.cells #[.int .i64 kk, .slice ai items.length ci, .slice ap parts.length cp, .slice an names.length cn, .slice ac cls.length cc, .slice al levels.length cl, .int .i64 code, .int .i64 env] 26) (.cells #[.int .i64 (kk'), .slice ai' items'.length ci', .slice ap' parts'.length cp', .slice an' names'.length cn', .slice ac' cls'.length cc', .slice al' levels'.length cl', .int .i64 (code'), .int .i64 (env')] 26))
    have KB0 := Lib.hid (blk_new (w.alloc (.cells #[.int .i64 kk, .slice ai items.length ci, .slice ap parts.length cp, .slice an names.length cn, .slice ac cls.length cc, .slice al levels.length cl, .int .i64 code, .int .i64 env] 26)) (.cells #[.int .i64 (kk'), .slice ai' items'.length ci', .slice ap' parts'.length cp', .slice an' names'.length cn', .slice ac' cls'.length cc', .slice al' levels'.length cl', .int .i64 (code'), .int .i64 (env')] 26) (show w.heap.size + 1 = _ by simp))
    with_reducible refine (SZ.out _ B0.out).mono ?_
    rintro e w1 ⟨rfl, b⟩
    have B1 := Lib.hid (below_then B0.out b)
    have KB1 := Lib.hid (blk_below b KB0.out)
    clear b
    obtain ⟨l0, l1, l2, l3, l4, l5, l6, l7⟩ := vec8 KB1.out
    go_wp2_with fail
    with_reducible refine (SB.out _ B1.out).mono ?_
    rintro e w2 ⟨rfl, b⟩
    have B2 := Lib.hid (below_then B1.out b)
    clear b
    go_wp2
    go_ret
    exact ⟨rfl, B2.out⟩
  have hsm' := small_of d1 x1 hf1 (by omega)
  rw [szL_yes (show (wV d1 x1 : Int) ≤ 1048576 - (wV d0 x0 : Int) by omega)] at SB
  have TA := Lib.hid (fun (w1 : World) (hb : Below w.heap.size w w1) => (toAll d0).out x0 y0 0 w.heap.size w1 (hv0.below hb (Nat.le_refl _)) hb.size hsm)
  have TB := Lib.hid (fun (w1 : World) (hb : Below w.heap.size w w1) => (toAll d1).out x1 y1 0 w.heap.size w1 (hv1.below hb (Nat.le_refl _)) hb.size hsm')
  have SP0 := (fun (w1 : World) (x y : Value) (h : VecAt 0 w1.heap.size w1 d0 x0 x) (h' : VecAt 0 w1.heap.size w1 d1 x1 y) => specEqualVectors d0 d1 x0 x1 x y 0 w1.heap.size 0 w1.heap.size w1 h (Nat.le_refl _) h' (Nat.le_refl _) hsm hsm')
  have IM0 := (fun (w1 : World) (x y : Value) (h : VecAt 0 w1.heap.size w1 d0 x0 x) (h' : VecAt 0 w1.heap.size w1 d1 x1 y) => implEqualVectors d0 d1 x0 x1 x y 0 w1.heap.size 0 w1.heap.size w1 h (Nat.le_refl _) h' (Nat.le_refl _) hsm hsm')
  obtain ⟨bb, hbb⟩ : ∃ bb, bB (ValidV x0 ∧ ValidV x1 ∧ x0 = x1) = bb := ⟨_, rfl⟩
  rw [hbb] at SP0 IM0
  have SP := Lib.hid SP0
  have IM := Lib.hid IM0
  clear hbb SP0 IM0
  have EA := Lib.hid (fun (w1 : World) (x y : Value) (h : VecAt 0 w1.heap.size w1 d0 x0 x) (k : VecAt 0 w1.heap.size w1 d0 x0 y) => (eqAll d0).out x0 x y 0 w1.heap.size 0 w1.heap.size w1 h (Nat.le_refl _) k (Nat.le_refl _) hf0)
  have EB := Lib.hid (fun (w1 : World) (x y : Value) (h : VecAt 0 w1.heap.size w1 d1 x1 x) (k : VecAt 0 w1.heap.size w1 d1 x1 y) => (eqAll d1).out x1 x y 0 w1.heap.size 0 w1.heap.size w1 h (Nat.le_refl _) k (Nat.le_refl _) hf1)
  obtain ⟨q, hq⟩ : ∃ q, wV d0 x0 = q := ⟨_, rfl⟩
  obtain ⟨q', hq'⟩ : ∃ q, wV d1 x1 = q := ⟨_, rfl⟩
  rw [hq] at SZ SB hbig hbig'
  rw [hq'] at SB hbig'
  obtain ⟨X0, hX⟩ : ∃ X, x0 = X := ⟨_, rfl⟩
  obtain ⟨X1, hX'⟩ : ∃ X, x1 = X := ⟨_, rfl⟩
  rw [hX] at TA SP IM EA
  rw [hX'] at TB SP IM EB
  clear hf0 hf1 hX hX' hq hq' hsm hsm'
  obtain ⟨kk, items, parts, names, cls, levels, code, env⟩ := x0
  obtain ⟨kk', items', parts', names', cls', levels', code', env'⟩ := x1
  obtain ⟨d', ai, ci, ap, cp, an, cn, ac, cc, al, cl, ed, rfl, hI, hN, hC, hL, hP⟩ := vecAt_open hv0
  obtain ⟨e', ai', ci', ap', cp', an', cn', ac', cc', al', cl', ed', rfl, hI', hN', hC', hL', hP'⟩ := vecAt_open hv1
  clear hv0 hI hN hC hL hP ed hv1 hI' hN' hC' hL' hP' ed'
  go_enter Try.func11, Try.ntmps11
  go_wp2_with fail
  have B0 := Lib.hid (below2 w (.cells #[.int .i64 kk, .slice ai items.length ci, .slice ap parts.length cp, .slice an names.length cn, .slice ac cls.length cc, .slice al levels.length cl, .int .i64 code, .int .i64 env] 26) (.cells #[.int .i64 (kk'), .slice ai' items'.length ci', .slice ap' parts'.length cp', .slice an' names'.length cn', .slice ac' cls'.length cc', .slice al' levels'.length cl', .int .i64 (code'), .int .i64 (env')] 26))
  have KA0 := Lib.hid (blk_old (p := .cells #[.int .i64 (kk'), .slice ai' items'.length ci', .slice ap' parts'.length cp', .slice an' names'.length cn', .slice ac' cls'.length cc', .slice al' levels'.length cl', .int .i64 (code'), .int .i64 (env')] 26) (blk_new w (.cells #[.int .i64 kk, .slice ai items.length ci, .slice ap parts.length cp, .slice an names.length cn, .slice ac cls.length cc, .slice al levels.length cl, .int .i64 code, .int .i64 env] 26) rfl))
  have KB0 := Lib.hid (blk_new (w.alloc (.cells #[.int .i64 kk, .slice ai items.length ci, .slice ap parts.length cp, .slice an names.length cn, .slice ac cls.length cc, .slice al levels.length cl, .int .i64 code, .int .i64 env] 26)) (.cells #[.int .i64 (kk'), .slice ai' items'.length ci', .slice ap' parts'.length cp', .slice an' names'.length cn', .slice ac' cls'.length cc', .slice al' levels'.length cl', .int .i64 (code'), .int .i64 (env')] 26) (show w.heap.size + 1 = _ by simp))
  with_reducible refine (SZ.out _ B0.out).mono ?_
  rintro e w1 ⟨rfl, b⟩
  have B1 := Lib.hid (below_then B0.out b)
  have KA1 := Lib.hid (blk_below b KA0.out)
  have KB1 := Lib.hid (blk_below b KB0.out)
  clear b
  obtain ⟨l0, l1, l2, l3, l4, l5, l6, l7⟩ := vec8 KB1.out
  go_wp2_with fail
  with_reducible refine (SB.out _ B1.out).mono ?_
  rintro e w2 ⟨rfl, b⟩
  have B2 := Lib.hid (below_then B1.out b)
  have KA2 := Lib.hid (blk_below b KA1.out)
  have KB2 := Lib.hid (blk_below b KB1.out)
  clear b l0 l1 l2 l3 l4 l5 l6 l7
  go_wp2
  have H := Lib.hid (heldC_two B2.out KB2.out KA2.out)
  refine run_region (ops := (opsOf Try.f11 8)) (S := fun w' => HeldC w w' ([(w.heap.size + 1, 26, #[.int .i64 (kk'), .slice ai' items'.length ci', .slice ap' parts'.length cp', .slice an' names'.length cn', .slice ac' cls'.length cc', .slice al' levels'.length cl', .int .i64 (code'), .int .i64 (env')]), (w.heap.size, 26, #[.int .i64 kk, .slice ai items.length ci, .slice ap parts.length cp, .slice an names.length cn, .slice ac cls.length cc, .slice al levels.length cl, .int .i64 code, .int .i64 env])])) [(0, true), (2, true), (1, false), (3, false), (4, false), (5, true)] (by kernel_rfl) (by kernel_rfl) (by kernel_rfl) (by kernel_rfl) (by kernel_rfl) (fun _ _ _ _ _ h => h) (heldC_drew H.out) ?_
  have H := Lib.hid (heldC_drew H.out)
  refine runC_lvec (b := w.heap.size) (show opAt (opsOf Try.f11 8) 0 = some (some 20, .load 26 (.tmp 2), none) from by kernel_rfl) (by kernel_rfl) (by kernel_rfl) (by kernel_rfl) (List.Mem.tail _ (List.Mem.head _)) ?_
  refine runC_lvec (b := w.heap.size + 1) (show opAt (opsOf Try.f11 8) 2 = some (some 22, .load 26 (.tmp 3), none) from by kernel_rfl) (by kernel_rfl) (by kernel_rfl) (by kernel_rfl) (List.Mem.head _) ?_
  refine run_call (args := [.agg #[.int .i64 kk, .slice ai items.length ci, .slice ap parts.length cp, .slice an names.length cn, .slice ac cls.length cc, .slice al levels.length cl, .int .i64 code, .int .i64 env]]) (show opAt (opsOf Try.f11 8) 1 = some (some 21, .call { callee := .value (.func 16), args := [(.tmp 20)].toArray, argTypes := [26].toArray }, none) from by kernel_rfl) (by kernel_rfl) (by kernel_rfl) (by kernel_rfl) (by kernel_rfl) ?_
  refine (TA.out _ H.out.1).mono ?_
  rintro en rw1 ⟨y1_, F1, rfl, O1, nd1, rg1, hb⟩
  refine ⟨_, rfl, heldC_call H.out hb, ?_⟩
  have H := Lib.hid (heldC_call H.out hb)
  have VA := Lib.hid (O1.vecAt (lo := 0) (hi := rw1.heap.size) _ _ _ _ (fun b hb => ⟨Nat.zero_le _, (rg1 b hb).2⟩))
  clear hb O1 nd1 rg1
  refine run_call (args := [.agg #[.int .i64 (kk'), .slice ai' items'.length ci', .slice ap' parts'.length cp', .slice an' names'.length cn', .slice ac' cls'.length cc', .slice al' levels'.length cl', .int .i64 (code'), .int .i64 (env')]]) (show opAt (opsOf Try.f11 8) 3 = some (some 23, .call { callee := .value (.func 16), args := [(.tmp 22)].toArray, argTypes := [26].toArray }, none) from by kernel_rfl) (by kernel_rfl) (by kernel_rfl) (by kernel_rfl) (by kernel_rfl) ?_
  refine (TB.out _ H.out.1).mono ?_
  rintro en rw2 ⟨y2_, F2, rfl, O2, nd2, rg2, hb⟩
  refine ⟨_, rfl, heldC_call H.out hb, ?_⟩
  have H := Lib.hid (heldC_call H.out hb)
  have V2 := Lib.hid (O2.vecAt (lo := 0) (hi := rw2.heap.size) _ _ _ _ (fun b hb => ⟨Nat.zero_le _, (rg2 b hb).2⟩))
  have V1 := Lib.hid ((VA.out.below hb (Nat.le_refl _)).wide (lo' := 0) (hi' := rw2.heap.size) (Nat.le_refl _) hb.size)
  clear hb O2 nd2 rg2 VA
  refine run_call (args := [y1_, y2_]) (show opAt (opsOf Try.f11 8) 4 = some (some 24, .call { callee := .value (.func 47), args := [(.tmp 21), (.tmp 23)].toArray, argTypes := [32, 32].toArray }, none) from by kernel_rfl) (by kernel_rfl) (by kernel_rfl) (by kernel_rfl) (by kernel_rfl) ?_
  refine (SP.out _ _ _ V1.out V2.out).mono ?_
  rintro en rw3 ⟨rfl, hb⟩
  refine ⟨_, rfl, heldC_call H.out hb, ?_⟩
  have H := Lib.hid (heldC_call H.out hb)
  clear hb
  refine run_asg (v := .bool bb) (show opAt (opsOf Try.f11 8) 5 = some (some 6, .assign (.tmp 24), none) from by kernel_rfl) (by kernel_rfl) (by kernel_rfl) (by kernel_rfl) ?_
  refine run_done ?_
  simp only [putAll, Act.put, List.setIfInBounds_toArray, List.set_cons_zero, List.set_cons_succ]
  obtain ⟨w3, hw3⟩ : ∃ w3, rw3 = w3 := ⟨_, rfl⟩
  subst hw3
  have B3 := Lib.hid H.out.1
  have KB3 := Lib.hid (heldC_at H.out (List.Mem.head _))
  have KA3 := Lib.hid (heldC_at H.out (List.Mem.tail _ (List.Mem.head _)))
  clear H V1 V2
  obtain ⟨k0, k1, k2, k3, k4, k5, k6, k7⟩ := vec8 KA3.out
  go_wp2_with fail
  with_reducible refine (TA.out _ B3.out).mono ?_
  rintro e w4 ⟨y3, F3, rfl, O3, nd3, rg3, b⟩
  obtain ⟨zk, a1, n1, m1, a2, n2, m2, a3, n3, m3, a4, n4, m4, a5, n5, m5, zc, ze, rfl⟩ := O3.agg
  have B4 := Lib.hid (below_then B3.out b)
  have KA4 := Lib.hid (blk_below b KA3.out)
  have KB4 := Lib.hid (blk_below b KB3.out)
  have VA4 := Lib.hid (O3.vecAt (lo := 0) (hi := w4.heap.size) _ _ _ _ (fun b hb => ⟨Nat.zero_le _, (rg3 b hb).2⟩))
  clear b nd3 rg3 O3 k0 k1 k2 k3 k4 k5 k6 k7
  have BN := Lib.hid (below1 w4 (.cells #[.int .i64 zk, .slice a1 n1 m1, .slice a2 n2 m2, .slice a3 n3 m3, .slice a4 n4 m4, .slice a5 n5 m5, .int .i64 zc, .int .i64 ze] 32))
  have B5 := Lib.hid (below_then B4.out BN.out)
  have KA5 := Lib.hid (blk_below BN.out KA4.out)
  have KB5 := Lib.hid (blk_below BN.out KB4.out)
  have J5 := Lib.hid (blk_new w4 (.cells #[.int .i64 zk, .slice a1 n1 m1, .slice a2 n2 m2, .slice a3 n3 m3, .slice a4 n4 m4, .slice a5 n5 m5, .int .i64 zc, .int .i64 ze] 32) rfl)
  obtain ⟨l0, l1, l2, l3, l4, l5, l6, l7⟩ := vec8 KB4.out
  have hz4 := (Array.getElem?_eq_some_iff.1 KB4.out).1
  go_wp2_with fail
  with_reducible refine (TB.out _ B5.out).mono ?_
  rintro e w6 ⟨y4, F4, rfl, O4, nd4, rg4, b⟩
  obtain ⟨yk, b1, o1, p1, b2, o2, p2, b3, o3, p3, b4, o4, p4, b5, o5, p5, yc, ye, rfl⟩ := O4.agg
  have B6 := Lib.hid (below_then B5.out b)
  have KA6 := Lib.hid (blk_below b KA5.out)
  have KB6 := Lib.hid (blk_below b KB5.out)
  have J6 := Lib.hid (blk_below b J5.out)
  have VB6 := Lib.hid (O4.vecAt (lo := 0) (hi := w6.heap.size) _ _ _ _ (fun b hb => ⟨Nat.zero_le _, (rg4 b hb).2⟩))
  have VA6 := Lib.hid ((VA4.out.below (below_then BN.out b) (Nat.le_refl _)).wide (lo' := 0) (hi' := w6.heap.size) (Nat.le_refl _) (Nat.le_trans BN.out.size b.size))
  clear b nd4 rg4 O4 l0 l1 l2 l3 l4 l5 l6 l7 hz4
  have BM := Lib.hid (below1 w6 (.cells #[.int .i64 yk, .slice b1 o1 p1, .slice b2 o2 p2, .slice b3 o3 p3, .slice b4 o4 p4, .slice b5 o5 p5, .int .i64 yc, .int .i64 ye] 32))
  have V7A := Lib.hid ((VA6.out.below BM.out (Nat.le_refl _)).wide (lo' := 0) (hi' := (w6.alloc (.cells #[.int .i64 yk, .slice b1 o1 p1, .slice b2 o2 p2, .slice b3 o3 p3, .slice b4 o4 p4, .slice b5 o5 p5, .int .i64 yc, .int .i64 ye] 32)).heap.size) (Nat.le_refl _) BM.out.size)
  have V7B := Lib.hid ((VB6.out.below BM.out (Nat.le_refl _)).wide (lo' := 0) (hi' := (w6.alloc (.cells #[.int .i64 yk, .slice b1 o1 p1, .slice b2 o2 p2, .slice b3 o3 p3, .slice b4 o4 p4, .slice b5 o5 p5, .int .i64 yc, .int .i64 ye] 32)).heap.size) (Nat.le_refl _) BM.out.size)
  obtain ⟨j0, j1, j2, j3, j4, j5, j6, j7⟩ := vec8 J6.out
  have hz6 := (Array.getElem?_eq_some_iff.1 J6.out).1
  go_wp2_with fail
  with_reducible refine (IM.out _ _ _ V7A.out V7B.out).mono ?_
  rintro e w8 ⟨rfl, b⟩
  have BT := Lib.hid (below_then BM.out b)
  have B8 := Lib.hid (below_then B6.out BT.out)
  have KA8 := Lib.hid (blk_below BT.out KA6.out)
  have KB8 := Lib.hid (blk_below BT.out KB6.out)
  have J8 := Lib.hid (blk_below BT.out J6.out)
  have J8' := Lib.hid (blk_below b (blk_new w6 (.cells #[.int .i64 yk, .slice b1 o1 p1, .slice b2 o2 p2, .slice b3 o3 p3, .slice b4 o4 p4, .slice b5 o5 p5, .int .i64 yc, .int .i64 ye] 32) rfl))
  have XA := Lib.hid (fun (w' : World) (hb : Below w8.heap.size w8 w') => (VA6.out.below (below_then BT.out hb) (Nat.le_refl _)).wide (lo' := 0) (hi' := w'.heap.size) (Nat.le_refl _) (Nat.le_trans BT.out.size hb.size))
  have XB8 := Lib.hid (fun (w' : World) (hb : Below w8.heap.size w8 w') => (VB6.out.below (below_then BT.out hb) (Nat.le_refl _)).wide (lo' := 0) (hi' := w'.heap.size) (Nat.le_refl _) (Nat.le_trans BT.out.size hb.size))
  clear b j0 j1 j2 j3 j4 j5 j6 j7 hz6
  have HX := Lib.hid (show HeldC w w8 [(w6.heap.size, 32, #[.int .i64 yk, .slice b1 o1 p1, .slice b2 o2 p2, .slice b3 o3 p3, .slice b4 o4 p4, .slice b5 o5 p5, .int .i64 yc, .int .i64 ye]), (w4.heap.size, 32, #[.int .i64 zk, .slice a1 n1 m1, .slice a2 n2 m2, .slice a3 n3 m3, .slice a4 n4 m4, .slice a5 n5 m5, .int .i64 zc, .int .i64 ze]), (w.heap.size + 1, 26, #[.int .i64 (kk'), .slice ai' items'.length ci', .slice ap' parts'.length cp', .slice an' names'.length cn', .slice ac' cls'.length cc', .slice al' levels'.length cl', .int .i64 (code'), .int .i64 (env')]), (w.heap.size, 26, #[.int .i64 kk, .slice ai items.length ci, .slice ap parts.length cp, .slice an names.length cn, .slice ac cls.length cc, .slice al levels.length cl, .int .i64 code, .int .i64 env])] from ⟨B8.out, fun q hq => by
    simp only [List.mem_cons, List.not_mem_nil, or_false] at hq
    rcases hq with rfl | rfl | rfl | rfl
    · exact J8'.out
    · exact J8.out
    · exact KB8.out
    · exact KA8.out⟩)
  have H := HX
  have DR := Lib.hid (below_drew' (Below.refl w8.heap.size w8))
  go_wp2
  refine run_region (ops := (opsOf Try.f11 14)) (S := fun w' => HeldC w w' ([(w6.heap.size, 32, #[.int .i64 yk, .slice b1 o1 p1, .slice b2 o2 p2, .slice b3 o3 p3, .slice b4 o4 p4, .slice b5 o5 p5, .int .i64 yc, .int .i64 ye]), (w4.heap.size, 32, #[.int .i64 zk, .slice a1 n1 m1, .slice a2 n2 m2, .slice a3 n3 m3, .slice a4 n4 m4, .slice a5 n5 m5, .int .i64 zc, .int .i64 ze]), (w.heap.size + 1, 26, #[.int .i64 (kk'), .slice ai' items'.length ci', .slice ap' parts'.length cp', .slice an' names'.length cn', .slice ac' cls'.length cc', .slice al' levels'.length cl', .int .i64 (code'), .int .i64 (env')]), (w.heap.size, 26, #[.int .i64 kk, .slice ai items.length ci, .slice ap parts.length cp, .slice an names.length cn, .slice ac cls.length cc, .slice al levels.length cl, .int .i64 code, .int .i64 env])])) [(0, true), (1, true), (2, false), (3, false), (4, true)] (by kernel_rfl) (by kernel_rfl) (by kernel_rfl) (by kernel_rfl) (by kernel_rfl) (fun _ _ _ _ _ h => h) (heldC_drew H.out) ?_
  have H := Lib.hid (heldC_drew H.out)
  refine runC_vec (b := w4.heap.size) (show opAt (opsOf Try.f11 14) 0 = some (some 35, .load 32 (.tmp 7), none) from by kernel_rfl) (by kernel_rfl) (by kernel_rfl) (by kernel_rfl) (List.Mem.tail _ (List.Mem.head _)) ?_
  refine runC_lvec (b := w.heap.size) (show opAt (opsOf Try.f11 14) 1 = some (some 36, .load 26 (.tmp 2), none) from by kernel_rfl) (by kernel_rfl) (by kernel_rfl) (by kernel_rfl) (List.Mem.tail _ (List.Mem.tail _ (List.Mem.tail _ (List.Mem.head _)))) ?_
  refine run_call (args := [.agg #[.int .i64 kk, .slice ai items.length ci, .slice ap parts.length cp, .slice an names.length cn, .slice ac cls.length cc, .slice al levels.length cl, .int .i64 code, .int .i64 env]]) (show opAt (opsOf Try.f11 14) 2 = some (some 37, .call { callee := .value (.func 16), args := [(.tmp 36)].toArray, argTypes := [26].toArray }, none) from by kernel_rfl) (by kernel_rfl) (by kernel_rfl) (by kernel_rfl) (by kernel_rfl) ?_
  refine (TA.out _ H.out.1).mono ?_
  rintro en rw1 ⟨y3_, F3, rfl, O3, nd3, rg3, hb⟩
  refine ⟨_, rfl, heldC_call H.out hb, ?_⟩
  have X2 := Lib.hid (XA.out _ (below_then DR.out hb))
  have P14 := Lib.hid (below_then DR.out hb)
  have H := Lib.hid (heldC_call H.out hb)
  have VA3 := Lib.hid (O3.vecAt (lo := 0) (hi := rw1.heap.size) _ _ _ _ (fun b hb' => ⟨Nat.zero_le _, (rg3 b hb').2⟩))
  clear O3 nd3 rg3 hb
  refine run_call (args := [.agg #[.int .i64 zk, .slice a1 n1 m1, .slice a2 n2 m2, .slice a3 n3 m3, .slice a4 n4 m4, .slice a5 n5 m5, .int .i64 zc, .int .i64 ze], y3_]) (show opAt (opsOf Try.f11 14) 3 = some (some 38, .call { callee := .value (.func 18), args := [(.tmp 35), (.tmp 37)].toArray, argTypes := [32, 32].toArray }, none) from by kernel_rfl) (by kernel_rfl) (by kernel_rfl) (by kernel_rfl) (by kernel_rfl) ?_
  refine (EA.out _ _ _ X2.out VA3.out).mono ?_
  rintro en rw2 ⟨rfl, hb⟩
  refine ⟨_, rfl, heldC_call H.out hb, ?_⟩
  have H := Lib.hid (heldC_call H.out hb)
  have BDONE := below_then P14.out hb
  clear hb
  refine run_not (b := true) (show opAt (opsOf Try.f11 14) 4 = some (some 39, .unOp .not 4 (.tmp 38), none) from by kernel_rfl) (by kernel_rfl) (by kernel_rfl) (by kernel_rfl) ?_
  refine run_done ?_
  simp only [putAll, Act.put, List.setIfInBounds_toArray, List.set_cons_zero, List.set_cons_succ]
  have BW := Lib.hid (show Below w8.heap.size w8 rw2 from BDONE)
  go_wp2
  have XB := Lib.hid (fun (w' : World) (hb : Below rw2.heap.size rw2 w') => XB8.out w' (below_then BW.out hb))
  have DR := Lib.hid (below_drew' (Below.refl rw2.heap.size rw2))
  refine run_region (ops := (opsOf Try.f11 16)) (S := fun w' => HeldC w w' ([(w6.heap.size, 32, #[.int .i64 yk, .slice b1 o1 p1, .slice b2 o2 p2, .slice b3 o3 p3, .slice b4 o4 p4, .slice b5 o5 p5, .int .i64 yc, .int .i64 ye]), (w4.heap.size, 32, #[.int .i64 zk, .slice a1 n1 m1, .slice a2 n2 m2, .slice a3 n3 m3, .slice a4 n4 m4, .slice a5 n5 m5, .int .i64 zc, .int .i64 ze]), (w.heap.size + 1, 26, #[.int .i64 (kk'), .slice ai' items'.length ci', .slice ap' parts'.length cp', .slice an' names'.length cn', .slice ac' cls'.length cc', .slice al' levels'.length cl', .int .i64 (code'), .int .i64 (env')]), (w.heap.size, 26, #[.int .i64 kk, .slice ai items.length ci, .slice ap parts.length cp, .slice an names.length cn, .slice ac cls.length cc, .slice al levels.length cl, .int .i64 code, .int .i64 env])])) [(0, true), (1, true), (2, false), (3, false), (4, true)] (by kernel_rfl) (by kernel_rfl) (by kernel_rfl) (by kernel_rfl) (by kernel_rfl) (fun _ _ _ _ _ h => h) (heldC_drew H.out) ?_
  have H := Lib.hid (heldC_drew H.out)
  refine runC_vec (b := w6.heap.size) (show opAt (opsOf Try.f11 16) 0 = some (some 40, .load 32 (.tmp 8), none) from by kernel_rfl) (by kernel_rfl) (by kernel_rfl) (by kernel_rfl) (List.Mem.head _) ?_
  refine runC_lvec (b := w.heap.size + 1) (show opAt (opsOf Try.f11 16) 1 = some (some 41, .load 26 (.tmp 3), none) from by kernel_rfl) (by kernel_rfl) (by kernel_rfl) (by kernel_rfl) (List.Mem.tail _ (List.Mem.tail _ (List.Mem.head _))) ?_
  refine run_call (args := [.agg #[.int .i64 (kk'), .slice ai' items'.length ci', .slice ap' parts'.length cp', .slice an' names'.length cn', .slice ac' cls'.length cc', .slice al' levels'.length cl', .int .i64 (code'), .int .i64 (env')]]) (show opAt (opsOf Try.f11 16) 2 = some (some 42, .call { callee := .value (.func 16), args := [(.tmp 41)].toArray, argTypes := [26].toArray }, none) from by kernel_rfl) (by kernel_rfl) (by kernel_rfl) (by kernel_rfl) (by kernel_rfl) ?_
  refine (TB.out _ H.out.1).mono ?_
  rintro en rw1 ⟨y3_, F3, rfl, O3, nd3, rg3, hb⟩
  refine ⟨_, rfl, heldC_call H.out hb, ?_⟩
  have X2 := Lib.hid (XB.out _ (below_then DR.out hb))
  have H := Lib.hid (heldC_call H.out hb)
  have VA3 := Lib.hid (O3.vecAt (lo := 0) (hi := rw1.heap.size) _ _ _ _ (fun b hb' => ⟨Nat.zero_le _, (rg3 b hb').2⟩))
  clear O3 nd3 rg3 hb
  refine run_call (args := [.agg #[.int .i64 yk, .slice b1 o1 p1, .slice b2 o2 p2, .slice b3 o3 p3, .slice b4 o4 p4, .slice b5 o5 p5, .int .i64 yc, .int .i64 ye], y3_]) (show opAt (opsOf Try.f11 16) 3 = some (some 43, .call { callee := .value (.func 18), args := [(.tmp 40), (.tmp 42)].toArray, argTypes := [32, 32].toArray }, none) from by kernel_rfl) (by kernel_rfl) (by kernel_rfl) (by kernel_rfl) (by kernel_rfl) ?_
  refine (EB.out _ _ _ X2.out VA3.out).mono ?_
  rintro en rw2 ⟨rfl, hb⟩
  refine ⟨_, rfl, heldC_call H.out hb, ?_⟩
  have H := Lib.hid (heldC_call H.out hb)
  clear hb
  refine run_not (b := true) (show opAt (opsOf Try.f11 16) 4 = some (some 44, .unOp .not 4 (.tmp 43), none) from by kernel_rfl) (by kernel_rfl) (by kernel_rfl) (by kernel_rfl) ?_
  refine run_done ?_
  simp only [putAll, Act.put, List.setIfInBounds_toArray, List.set_cons_zero, List.set_cons_succ]
  go_wp2
  go_ret
  exact ⟨rfl, H.out.1⟩

set_option maxRecDepth 100000 in
theorem lifted (os : Os) (started : os.Started) (H : Type) (enc : TypeId × Value → H) :
    ReturnsInHanded {} Try.checked os 11 .any (Rows.fnExactEqualVectorsSpec.pre6 enc Try.prog Try.f11 Rows.fnExactEqualVectorsRow.domain false) (Rows.fnExactEqualVectorsSpec.post enc Try.prog Try.f11 false true false false) := by
  refine returnsInHanded_of_change (C := Try.checked) own started (by kernel_rfl) Try.func11
    (ChangeSpec.witness6 (enc := enc) (C := Try.checked) false ⟨#[], #[.agg #[.int .i64 0, .slice none 0 0, .slice none 0 0, .slice none 0 0, .slice none 0 0, .slice none 0 0, .int .i64 0, .int .i64 0], .agg #[.int .i64 0, .slice none 0 0, .slice none 0 0, .slice none 0 0, .slice none 0 0, .slice none 0 0, .int .i64 0, .int .i64 0]], []⟩ 8 (by kernel_rfl) (by kernel_rfl) (by kernel_rfl) (by kernel_rfl)) ?_
  intro W base args ds gs before hval0 hW hcnd _
  have hval : ∀ (j : Nat) t v, Try.f11.params[j]? = some t → args[j]? = some v → Value.okWide Try.prog W .any base t v := hval0
  have hW' := hW
  obtain ⟨p, q, hA0, hV, rfl, hfz, hnd⟩ := hW
  have hA : DataW.TrodAll enc Try.prog W 0 (fun _ => true) true Try.f11.params.toList args.toList ds p := hA0
  rw [Try.params11] at hA hval
  obtain ⟨v0, vs0, d0, ds0, p0, q0, hargs0, rfl, rfl, h0, r0⟩ := trodAll_cons hA
  obtain ⟨v1, vs1, d1, ds1, p1, q1, hargs1, rfl, rfl, h1, r1⟩ := trodAll_cons r0
  obtain ⟨hnil, rfl, rfl⟩ := trodAll_nil r1
  have eargs : args.toList = [v0, v1] := by rw [hargs0, hargs1, hnil]
  obtain rfl : args = #[v0, v1] := Array.toList_inj.1 eargs
  obtain ⟨rfl, rfl⟩ := trodVars_none hV
  have k0 := h0
  have lt0 : ∀ x ∈ p0, x.block < W.heap.size := by obtain ⟨m, hm⟩ := k0; exact DataW.trod_lt m _ _ _ hm
  have k1 := h1
  have lt1 : ∀ x ∈ p1, x.block < W.heap.size := by obtain ⟨m, hm⟩ := k1; exact DataW.trod_lt m _ _ _ hm
  clear hA0 eargs hargs0 hargs1
  obtain ⟨d0, x0, hv0, hf0⟩ := vec_in (hval 0 26 v0 rfl rfl) h0
  obtain ⟨d1, x1, hv1, hf1⟩ := vec_in (hval 1 26 v1 rfl rfl) h1
  clear hval0
  refine (walk x0 d0 v0 x1 d1 v1 W hv0 hf0 hv1 hf1).mono fun e W' ⟨he, bel⟩ => ?_
  subst he
  have kp0 := Below.trod laidOut (show Try.prog.readableRec 26 = true by kernel_rfl) (of_decide_eq_true (by kernel_rfl)) k0 bel lt0
  have kp1 := Below.trod laidOut (show Try.prog.readableRec 26 = true by kernel_rfl) (of_decide_eq_true (by kernel_rfl)) k1 bel lt1
  exact ⟨_, rfl, _, _, _, [], _, [], hW', trodAll_mk1 (shut_bool Try.underlying4 _), (trodAll_cons_mk kp0 (trodAll_cons_mk kp1 trodAll_mk0)), rfl, bel.frame _, fun h => by cases h⟩

theorem over : Rows.fnExactEqualVectorsRow.holds Try.pinned (OpenSpec.ofChange Rows.fnExactEqualVectorsSpec) :=
  OpenClaim.holds_of_wide 11 Try.f11 rfl rfl rfl rfl rfl rfl rfl ⟨rfl, rfl, rfl, rfl, rfl⟩ rfl rfl rfl rfl rfl (by kernel_rfl) Try.func11 (by kernel_rfl)
    (of_decide_eq_true (by kernel_rfl)) (by unfold Func.isWrapper; first | (rw [if_pos (by decide +kernel)]; kernel_rfl) | (rw [if_neg (by decide +kernel)]; exact ⟨rfl, rfl⟩))
    (fun os started H enc _ => lifted os started H enc)

theorem proved : Rows.FnExactEqualVectorsSaid := over
end Go.Proofs.Ytemkppdinmfaoaa.fnExactEqualVectors
