/- Called with any arguments (vectors), the law FnExactImplicitClass returns true and leaves everything as it was. No condition. -/
import Derived.Test.YtemkppdinmfaoaaRows
import Derived.Test.YtemkppdinmfaoaaVecIn
import Derived.Test.YtemkppdinmfaoaaVecEq
import Derived.Test.YtemkppdinmfaoaaVecTo
import Derived.Test.YtemkppdinmfaoaaVecMath
import Derived.Test.YtemkppdinmfaoaaRegV2
import Derived.Test.YtemkppdinmfaoaaLawKit
import Derived.WalkKit
import Derived.ProofKit
import Derived.OpenShut
import Derived.ShutString
import Derived.ChangeOld
import Derived.Carry
import Derived.Below
namespace Go.Proofs.Ytemkppdinmfaoaa.fnExactImplicitClass
open Go.ChangeShapes Go.WideShapes Go.ChangeAt Go.RowKit
open Go.ChangeMaps (open_string shut_string)
set_option linter.unusedVariables false

theorem laidOut : laidOutB Try.prog = true := by kernel_rfl
theorem own : ownKnob Try.prog.godebug = none := by kernel_rfl

set_option maxHeartbeats 4000000 in
set_option maxRecDepth 100000 in
theorem walk (x0 : Vec) (d0 : Nat) (y0 : Value) (w : World) (hv0 : VecAt 0 w.heap.size w d0 x0 y0) (hf0 : Fits d0 x0) :
    Calls Try.prog 6 #[y0] w fun e w' => e = .returned (.bool true) ∧ Below w.heap.size w w' := by
  have SZ := Lib.hid (fun (w1 : World) (hb : Below w.heap.size w w1) => (szAll d0).out x0 y0 1048576 0 w.heap.size w1 (hv0.below hb (Nat.le_refl _)) hb.size hf0 (by omega) (by omega))
  by_cases hbig : 1048576 < wV d0 x0
  · rw [szL_no (show (1048576 : Int) < (wV d0 x0 : Int) by omega)] at SZ
    clear hbig
    obtain ⟨kk, items, parts, names, cls, levels, code, env⟩ := x0
    obtain ⟨d', ai, ci, ap, cp, an, cn, ac, cc, al, cl, ed, rfl, hI, hN, hC, hL, hP⟩ := vecAt_open hv0
    clear hv0 hf0 hI hN hC hL hP ed
    go_enter Try.func6, Try.ntmps6
    go_wp2_with fail
    with_reducible refine (SZ.out _ (below1 w _)).mono ?_
    rintro e w1 ⟨rfl, b⟩
    have B1 := Lib.hid (below_then (below1 w _) b)
    clear b
    go_wp2
    go_ret
    exact ⟨rfl, B1.out⟩
  have hsm := small_of d0 x0 hf0 (by omega)
  have hcm : 1 + cntM d0 x0 ≤ 8000000 := by have := cntM_le d0 x0; omega
  rw [szL_yes (show (wV d0 x0 : Int) ≤ 1048576 by omega)] at SZ
  have TO := Lib.hid (fun (w1 : World) (hb : Below w.heap.size w w1) => (toAll d0).out x0 y0 0 w.heap.size w1 (hv0.below hb (Nat.le_refl _)) hb.size hsm)
  have S := Lib.hid (fun (w1 : World) (y : Value) (h : VecAt 0 w1.heap.size w1 d0 x0 y) => specClass d0 x0 y 0 w1.heap.size w1 h (Nat.le_refl _) hsm)
  have I := Lib.hid (fun (w1 : World) (y : Value) (h : VecAt 0 w1.heap.size w1 d0 x0 y) => implClass d0 x0 y 0 w1.heap.size w1 h (Nat.le_refl _) hsm)
  have EQ := Lib.hid (fun (w1 : World) (x y : Value) (h : VecAt 0 w1.heap.size w1 d0 x0 x) (k : VecAt 0 w1.heap.size w1 d0 x0 y) => (eqAll d0).out x0 x y 0 w1.heap.size 0 w1.heap.size w1 h (Nat.le_refl _) k (Nat.le_refl _) hf0)
  have MV := Lib.hid (fun (w1 : World) (y : Value) (G : List Nat) (h : OwnVec w1 d0 x0 y G) (nd : G.Nodup) (lt : ∀ b ∈ G, b < w1.heap.size) => (show Calls Try.prog 26 #[y, .int .i64 1] w1 (fun e w' => e = .returned (.int .i64 ((1 + cntM d0 x0 : Nat) : Int)) ∧ OwnVec w' d0 (markV d0 1 x0) y G ∧ Touch G w1 w') from markVec d0 x0 y 1 G w1 h nd lt hsm (Nat.le_refl _) hcm))
  obtain ⟨cm, hcm'⟩ : ∃ c, 1 + cntM d0 x0 = c := ⟨_, rfl⟩
  rw [hcm'] at MV
  clear hsm hcm hcm'
  obtain ⟨q, hq⟩ : ∃ q, wV d0 x0 = q := ⟨_, rfl⟩
  rw [hq] at SZ hbig
  clear hq
  have NL := clsV_len x0
  obtain ⟨LL, hLL⟩ : ∃ l, clsV x0 = l := ⟨_, rfl⟩
  obtain ⟨nL, hnL⟩ : ∃ n, LL.length = n := ⟨_, rfl⟩
  rw [hLL, hnL] at NL
  have ELL := Lib.hid hLL
  have ENL := Lib.hid hnL
  obtain ⟨X0, hX⟩ : ∃ X, x0 = X := ⟨_, rfl⟩
  rw [hX] at TO S I EQ MV ELL
  have AN := Lib.hid (fun (w1 : World) (e : Ending) (w' : World) (h : ClassAns X0 w1 e w') => (by
    obtain ⟨a, c, G, h1, h2, h3, h4, h5⟩ := h
    rw [ELL.out] at h1 h2
    rw [ENL.out] at h1
    exact ⟨a, c, G, h1, h2, h3, h4, h5⟩ : ∃ a c G, e = .returned (.slice a nL c) ∧ OwnTxs w' a LL G ∧ G.Nodup ∧ (∀ b ∈ G, w1.heap.size ≤ b ∧ b < w'.heap.size) ∧ Below w1.heap.size w1 w'))
  have ET := Lib.hid (fun (w1 : World) (a b : Option Addr) (ca cb lo hi lo' hi' : Nat) (ha : TextsAt lo hi w1 a LL) (hb : TextsAt lo' hi' w1 b LL) => (by have h := eqTxB LL a b ca cb lo hi lo' hi' w1 ha hb (by omega); rw [hnL] at h; exact h : Calls Try.prog 25 #[.slice a nL ca, .slice b nL cb] w1 fun e w' => e = .returned (.bool true) ∧ Below w1.heap.size w1 w'))
  have MS := Lib.hid (fun (w1 : World) (a : Option Addr) (c : Nat) (G : List Nat) (h : OwnTxs w1 a LL G) => (show Calls Try.prog 27 #[.slice a nL c, .int .i64 1] w1 (fun e w' => e = .returned (.int .i64 (1 + (nL : Int))) ∧ OwnTxs w' a (markS 1 nL) G ∧ Touch G w1 w') from by have h := markTxs LL a c 1 G w1 h (by omega) (by omega) (by omega); rw [hnL] at h; exact h))
  have HD := Lib.hid (fun (w1 : World) (a : Option Addr) (c hi : Nat) (h : TextsAt 0 hi w1 a (markS 1 nL)) (hh : hi ≤ w1.heap.size) => (show Calls Try.prog 28 #[.slice a nL c, .int .i64 1] w1 (fun e w' => e = .returned (.int .i64 (1 + (nL : Int))) ∧ Below w1.heap.size w1 w') from heldTxs nL a c 1 0 hi w1 h hh (by omega) (by omega) (by omega)))
  clear hf0 hX hLL hnL
  obtain ⟨kk, items, parts, names, cls, levels, code, env⟩ := x0
  obtain ⟨d', ai, ci, ap, cp, an, cn, ac, cc, al, cl, ed, rfl, hI, hN, hC, hL, hP⟩ := vecAt_open hv0
  clear hv0 hI hN hC hL hP ed
  go_enter Try.func6, Try.ntmps6
  go_wp2_with fail
  have B0 := Lib.hid (below1 w (.cells #[.int .i64 kk, .slice ai items.length ci, .slice ap parts.length cp, .slice an names.length cn, .slice ac cls.length cc, .slice al levels.length cl, .int .i64 code, .int .i64 env] 26))
  have K0 := Lib.hid (blk_new w (.cells #[.int .i64 kk, .slice ai items.length ci, .slice ap parts.length cp, .slice an names.length cn, .slice ac cls.length cc, .slice al levels.length cl, .int .i64 code, .int .i64 env] 26) rfl)
  with_reducible refine (SZ.out _ B0.out).mono ?_
  rintro e w1 ⟨rfl, b⟩
  have B1 := Lib.hid (below_then B0.out b)
  have K1 := Lib.hid (blk_below b K0.out)
  clear b
  obtain ⟨k0, k1, k2, k3, k4, k5, k6, k7⟩ := vec8 K1.out
  go_wp2_with fail
  with_reducible refine (TO.out _ B1.out).mono ?_
  rintro e w2 ⟨y1, F1, rfl, O1, nd1, rg1, b⟩
  have VA := Lib.hid (O1.vecAt (lo := 0) (hi := w2.heap.size) _ _ _ _ (fun b hb => ⟨Nat.zero_le _, (rg1 b hb).2⟩))
  have B2 := Lib.hid (below_then B1.out b)
  have K2 := Lib.hid (blk_below b K1.out)
  clear b O1 nd1 rg1 k0 k1 k2 k3 k4 k5 k6 k7
  go_wp2_with fail
  with_reducible refine (S.out _ _ VA.out).mono ?_
  intro e w2' han
  obtain ⟨aw, cw, Fw, rfl, ow, _, rgw, b⟩ := AN.out _ _ _ han
  have OW := Lib.hid ow
  have RW := Lib.hid rgw
  have B2' := Lib.hid (below_then B2.out b)
  have K2' := Lib.hid (blk_below b K2.out)
  have TW := Lib.hid (ow.texts (hi := w2'.heap.size) (fun b hb => (rgw b hb).2))
  clear b VA han ow rgw
  obtain ⟨k0, k1, k2, k3, k4, k5, k6, k7⟩ := vec8 K2'.out
  go_wp2_with fail
  with_reducible refine (TO.out _ B2'.out).mono ?_
  rintro e w3 ⟨y2, F2, rfl, O2, nd2, rg2, b⟩
  obtain ⟨zk, a1, n1, m1, a2, n2, m2, a3, n3, m3, a4, n4, m4, a5, n5, m5, zc, ze, rfl⟩ := O2.agg
  have B3 := Lib.hid (below_then B2'.out b)
  have K3 := Lib.hid (blk_below b K2'.out)
  have S23 := Lib.hid b.size
  have T3 := Lib.hid (TW.out.below b (Nat.le_refl _))
  have ND2 := Lib.hid nd2
  have RG2 := Lib.hid rg2
  have OX := Lib.hid O2
  have VX := Lib.hid (O2.vecAt (lo := 0) (hi := w3.heap.size) _ _ _ _ (fun b hb => ⟨Nat.zero_le _, (rg2 b hb).2⟩))
  clear b nd2 rg2 O2 k0 k1 k2 k3 k4 k5 k6 k7
  go_wp2_with fail
  obtain ⟨W4, hW4⟩ : ∃ W, w3.alloc (.cells #[.int .i64 zk, .slice a1 n1 m1, .slice a2 n2 m2, .slice a3 n3 m3, .slice a4 n4 m4, .slice a5 n5 m5, .int .i64 zc, .int .i64 ze] 32) = W := ⟨_, rfl⟩
  have b4 : Below w3.heap.size w3 W4 := hW4 ▸ below1 w3 _
  have G4 : W4.heap[w3.heap.size]? = some (.cells #[.int .i64 zk, .slice a1 n1 m1, .slice a2 n2 m2, .slice a3 n3 m3, .slice a4 n4 m4, .slice a5 n5 m5, .int .i64 zc, .int .i64 ze] 32 (0, 0)) := hW4 ▸ blk_new w3 _ rfl
  have z4 : w3.heap.size < W4.heap.size := (Array.getElem?_eq_some_iff.1 G4).1
  rw [hW4]
  have B4 := Lib.hid (below_then B3.out b4)
  have K4 := Lib.hid (blk_below b4 K3.out)
  have J4 := Lib.hid G4
  have Z4 := Lib.hid z4
  have T4 := Lib.hid (T3.out.below b4 S23.out)
  have OX4 := Lib.hid (OX.out.kept _ _ _ _ (fun g hg => b4.block g (RG2.out g hg).2))
  have V4 := Lib.hid ((VX.out.below b4 (Nat.le_refl _)).wide (lo' := 0) (hi' := W4.heap.size) (Nat.le_refl _) b4.size)
  clear hW4 G4 b4 z4
  with_reducible refine (I.out _ _ V4.out).mono ?_
  intro e w5 han
  obtain ⟨ag, cg, Fg, rfl, og, ndg, rgg, b⟩ := AN.out _ _ _ han
  have OG := Lib.hid og
  have NDG := Lib.hid ndg
  have RGG := Lib.hid rgg
  have B5 := Lib.hid (below_then B4.out b)
  have K5 := Lib.hid (blk_below b K4.out)
  have J5 := Lib.hid (blk_below b J4.out)
  have T5 := Lib.hid (T4.out.below b (Nat.le_trans S23.out (Nat.le_of_lt Z4.out)))
  have OX5 := Lib.hid (OX4.out.kept _ _ _ _ (fun g hg => b.block g (Nat.lt_trans (RG2.out g hg).2 Z4.out)))
  have V5 := Lib.hid (V4.out.below b (Nat.le_refl _))
  have S45 := Lib.hid b.size
  clear b han og ndg rgg
  have LG := Lib.hid (fun b hb => (RGG.out b hb).2 : ∀ b ∈ Fg, b < w5.heap.size)
  go_wp2_with fail
  with_reducible refine (ET.out _ _ _ cg cw _ _ _ _ (OG.out.texts LG.out) T5.out).mono ?_
  rintro e w6 ⟨rfl, b6⟩
  have B6 := Lib.hid (below_then B5.out b6)
  have K6 := Lib.hid (blk_below b6 K5.out)
  have J6 := Lib.hid (blk_below b6 J5.out)
  have b5 := Lib.hid b6
  clear b6
  have O2K := Lib.hid (fun (w' : World) (hb : Below w6.heap.size w6 w') => (V5.out.below (below_then b5.out hb) S45.out).wide (lo' := 0) (hi' := w'.heap.size) (Nat.le_refl _) (Nat.le_trans S45.out (Nat.le_trans b5.out.size hb.size)))
  go_wp2
  have H := Lib.hid (heldC_two B6.out J6.out K6.out)
  have DR := Lib.hid (below_drew' (Below.refl w6.heap.size w6))
  refine run_region (ops := (opsOf Try.f6 10)) (S := fun w' => HeldC w w' ([(w3.heap.size, 32, #[.int .i64 zk, .slice a1 n1 m1, .slice a2 n2 m2, .slice a3 n3 m3, .slice a4 n4 m4, .slice a5 n5 m5, .int .i64 zc, .int .i64 ze]), (w.heap.size, 26, #[.int .i64 kk, .slice ai items.length ci, .slice ap parts.length cp, .slice an names.length cn, .slice ac cls.length cc, .slice al levels.length cl, .int .i64 code, .int .i64 env])])) [(0, true), (1, true), (2, false), (3, false), (4, true)] (by kernel_rfl) (by kernel_rfl) (by kernel_rfl) (by kernel_rfl) (by kernel_rfl) (fun _ _ _ _ _ h => h) (heldC_drew H.out) ?_
  have H := Lib.hid (heldC_drew H.out)
  refine runC_vec (b := w3.heap.size) (show opAt (opsOf Try.f6 10) 0 = some (some 27, .load 32 (.tmp 5), none) from by kernel_rfl) (by kernel_rfl) (by kernel_rfl) (by kernel_rfl) (List.Mem.head _) ?_
  refine runC_lvec (b := w.heap.size) (show opAt (opsOf Try.f6 10) 1 = some (some 28, .load 26 (.tmp 1), none) from by kernel_rfl) (by kernel_rfl) (by kernel_rfl) (by kernel_rfl) (List.Mem.tail _ (List.Mem.head _)) ?_
  refine run_call (args := [.agg #[.int .i64 kk, .slice ai items.length ci, .slice ap parts.length cp, .slice an names.length cn, .slice ac cls.length cc, .slice al levels.length cl, .int .i64 code, .int .i64 env]]) (show opAt (opsOf Try.f6 10) 2 = some (some 29, .call { callee := .value (.func 16), args := [(.tmp 28)].toArray, argTypes := [26].toArray }, none) from by kernel_rfl) (by kernel_rfl) (by kernel_rfl) (by kernel_rfl) (by kernel_rfl) ?_
  refine (TO.out _ H.out.1).mono ?_
  rintro en rw1 ⟨y3, F3, rfl, O3, nd3, rg3, hb⟩
  refine ⟨_, rfl, heldC_call H.out hb, ?_⟩
  have X2 := Lib.hid (O2K.out _ (below_then DR.out hb))
  have P10 := Lib.hid (below_then DR.out hb)
  have H := Lib.hid (heldC_call H.out hb)
  have VA3 := Lib.hid (O3.vecAt (lo := 0) (hi := rw1.heap.size) _ _ _ _ (fun b hb' => ⟨Nat.zero_le _, (rg3 b hb').2⟩))
  clear O3 nd3 rg3 hb
  refine run_call (args := [.agg #[.int .i64 zk, .slice a1 n1 m1, .slice a2 n2 m2, .slice a3 n3 m3, .slice a4 n4 m4, .slice a5 n5 m5, .int .i64 zc, .int .i64 ze], y3]) (show opAt (opsOf Try.f6 10) 3 = some (some 30, .call { callee := .value (.func 18), args := [(.tmp 27), (.tmp 29)].toArray, argTypes := [32, 32].toArray }, none) from by kernel_rfl) (by kernel_rfl) (by kernel_rfl) (by kernel_rfl) (by kernel_rfl) ?_
  refine (EQ.out _ _ _ X2.out VA3.out).mono ?_
  rintro en rw2 ⟨rfl, hb⟩
  refine ⟨_, rfl, heldC_call H.out hb, ?_⟩
  have H := Lib.hid (heldC_call H.out hb)
  have P11 := Lib.hid (below_then P10.out hb)
  clear hb
  refine run_not (b := true) (show opAt (opsOf Try.f6 10) 4 = some (some 31, .unOp .not 4 (.tmp 30), none) from by kernel_rfl) (by kernel_rfl) (by kernel_rfl) (by kernel_rfl) ?_
  refine run_done ?_
  simp only [putAll, Act.put, List.setIfInBounds_toArray, List.set_cons_zero, List.set_cons_succ]
  have Q7 := Lib.hid (below_then b5.out P11.out)
  have B7 := Lib.hid H.out.1
  have J7 := Lib.hid (heldC_at H.out (List.Mem.head _))
  have K7 := Lib.hid (heldC_at H.out (List.Mem.tail _ (List.Mem.head _)))
  obtain ⟨w7, hw7⟩ : ∃ v, rw2 = v := ⟨_, rfl⟩
  subst hw7
  have OX7 := Lib.hid (OX5.out.kept _ _ _ _ (fun g hg => Q7.out.block g (Nat.lt_of_lt_of_le (Nat.lt_trans (RG2.out g hg).2 Z4.out) S45.out)))
  have OG7 := Lib.hid (OG.out.kept (fun g hg => Q7.out.block g (RGG.out g hg).2))
  have T7 := Lib.hid (T5.out.below Q7.out (Nat.le_trans S23.out (Nat.le_trans (Nat.le_of_lt Z4.out) S45.out)))
  have L7 := Lib.hid (fun g hg => Nat.lt_of_lt_of_le (Nat.lt_of_lt_of_le (Nat.lt_trans (RG2.out g hg).2 Z4.out) S45.out) Q7.out.size : ∀ g ∈ F2, g < rw2.heap.size)
  have LG7 := Lib.hid (fun g hg => Nat.lt_of_lt_of_le (RGG.out g hg).2 Q7.out.size : ∀ g ∈ Fg, g < rw2.heap.size)
  clear H P10 P11 X2 VA3
  obtain ⟨j0, j1, j2, j3, j4, j5, j6, j7⟩ := vec8 J7.out
  go_wp2_with fail
  with_reducible refine (MV.out _ _ _ OX7.out ND2.out L7.out).mono ?_
  rintro e w8 ⟨rfl, _, t8⟩
  have P2 := Lib.hid (fun g hg => Nat.le_trans B2'.out.size (RG2.out g hg).1 : ∀ g ∈ F2, w.heap.size ≤ g)
  have B8 := Lib.hid (B7.out.trans (t8.below P2.out B7.out.size))
  have K8 := Lib.hid ((t8.block w.heap.size (Array.getElem?_eq_some_iff.1 K7.out).1 (fun h => by have h1 := (RG2.out _ h).1; have h2 := (Array.getElem?_eq_some_iff.1 K2'.out).1; omega)).trans K7.out)
  have OG8 := Lib.hid (OG7.out.kept (fun g hg => t8.block g (LG7.out g hg) (fun h => by have h1 := (RG2.out _ h).2; have h2 := (RGG.out _ hg).1; have h3 := Z4.out; omega)))
  have OW8 := Lib.hid (show TextsAt 0 w2'.heap.size w8 aw LL from T7.out.kept (fun b o _ hb => by
    have hl : b < rw2.heap.size := Nat.lt_of_lt_of_le hb (Nat.le_trans S23.out (Nat.le_trans (Nat.le_of_lt Z4.out) (Nat.le_trans S45.out Q7.out.size)))
    exact World.cell?_of_block (t8.block b hl (fun h => by have h1 := (RG2.out _ h).1; omega))))
  have LG8 := Lib.hid (fun g hg => Nat.lt_of_lt_of_le (LG7.out g hg) t8.size : ∀ g ∈ Fg, g < w8.heap.size)
  have Z8 := Lib.hid (Nat.le_trans S23.out (Nat.le_trans (Nat.le_of_lt Z4.out) (Nat.le_trans S45.out (Nat.le_trans Q7.out.size t8.size))) : w2'.heap.size ≤ w8.heap.size)
  clear t8 j0 j1 j2 j3 j4 j5 j6 j7
  go_wp2_with fail
  with_reducible refine (ET.out _ _ _ cg cw _ _ _ _ (OG8.out.texts LG8.out) OW8.out).mono ?_
  rintro e w9 ⟨rfl, b⟩
  have B9 := Lib.hid (below_then B8.out b)
  have K9 := Lib.hid (blk_below b K8.out)
  have OG9 := Lib.hid (OG8.out.kept (fun g hg => b.block g (LG8.out g hg)))
  have OW9 := Lib.hid (OW8.out.below b Z8.out)
  have LG9 := Lib.hid (fun g hg => Nat.lt_of_lt_of_le (LG8.out g hg) b.size : ∀ g ∈ Fg, g < w9.heap.size)
  have Z9 := Lib.hid (Nat.le_trans Z8.out b.size)
  clear b
  go_wp2_with fail
  with_reducible refine (MS.out _ _ cg _ OG9.out).mono ?_
  rintro e w10 ⟨rfl, om, t10⟩
  have PG := Lib.hid (fun g hg => Nat.le_trans B4.out.size (RGG.out g hg).1 : ∀ g ∈ Fg, w.heap.size ≤ g)
  have B10 := Lib.hid (B9.out.trans (t10.below PG.out B9.out.size))
  have K10 := Lib.hid ((t10.block w.heap.size (Array.getElem?_eq_some_iff.1 K9.out).1 (fun h => by have h1 := (RGG.out _ h).1; have h2 := (Array.getElem?_eq_some_iff.1 K4.out).1; omega)).trans K9.out)
  have OM10 := Lib.hid om
  have OW10 := Lib.hid (show TextsAt 0 w2'.heap.size w10 aw LL from OW9.out.kept (fun b o _ hb => World.cell?_of_block (t10.block b (Nat.lt_of_lt_of_le hb Z9.out) (fun h => by have h1 := (RGG.out _ h).1; have h2 := Z4.out; have h3 := S23.out; omega))))
  have LG10 := Lib.hid (fun g hg => Nat.lt_of_lt_of_le (LG9.out g hg) t10.size : ∀ g ∈ Fg, g < w10.heap.size)
  have Z10 := Lib.hid (Nat.le_trans Z9.out t10.size)
  clear t10 om
  go_wp2_with fail
  with_reducible refine (HD.out _ _ cg w10.heap.size (OM10.out.texts LG10.out) (Nat.le_refl _)).mono ?_
  rintro e w11 ⟨rfl, b⟩
  have B11 := Lib.hid (below_then B10.out b)
  have K11 := Lib.hid (blk_below b K10.out)
  have OM11 := Lib.hid (OM10.out.kept (fun g hg => b.block g (LG10.out g hg)))
  have OW11 := Lib.hid (OW10.out.below b Z10.out)
  have LG11 := Lib.hid (fun g hg => Nat.lt_of_lt_of_le (LG10.out g hg) b.size : ∀ g ∈ Fg, g < w11.heap.size)
  have Z11 := Lib.hid (Nat.le_trans Z10.out b.size)
  clear b
  obtain ⟨k0, k1, k2, k3, k4, k5, k6, k7⟩ := vec8 K11.out
  go_wp2_with fail
  with_reducible refine (TO.out _ B11.out).mono ?_
  rintro e w12 ⟨y4, F4, rfl, O4, nd4, rg4, b⟩
  have B12 := Lib.hid (below_then B11.out b)
  have OM12 := Lib.hid (OM11.out.kept (fun g hg => b.block g (LG11.out g hg)))
  have OW12 := Lib.hid (OW11.out.below b Z11.out)
  have LG12 := Lib.hid (fun g hg => Nat.lt_of_lt_of_le (LG11.out g hg) b.size : ∀ g ∈ Fg, g < w12.heap.size)
  have Z12 := Lib.hid (Nat.le_trans Z11.out b.size)
  have V12 := Lib.hid (O4.vecAt (lo := 0) (hi := w12.heap.size) _ _ _ _ (fun b hb => ⟨Nat.zero_le _, (rg4 b hb).2⟩))
  clear b O4 nd4 rg4 k0 k1 k2 k3 k4 k5 k6 k7
  go_wp2_with fail
  with_reducible refine (I.out _ _ V12.out).mono ?_
  intro e w13 han
  obtain ⟨ah, ch, Fh, rfl, oh, _, rgh, b⟩ := AN.out _ _ _ han
  have OH := Lib.hid (oh.texts (hi := w13.heap.size) (fun b hb => (rgh b hb).2))
  have B13 := Lib.hid (below_then B12.out b)
  have OM13 := Lib.hid (OM12.out.kept (fun g hg => b.block g (LG12.out g hg)))
  have OW13 := Lib.hid (OW12.out.below b Z12.out)
  have LG13 := Lib.hid (fun g hg => Nat.lt_of_lt_of_le (LG12.out g hg) b.size : ∀ g ∈ Fg, g < w13.heap.size)
  clear b han oh rgh
  go_wp2_with fail
  with_reducible refine (ET.out _ _ _ ch cw _ _ _ _ OH.out OW13.out).mono ?_
  rintro e w14 ⟨rfl, b⟩
  have B14 := Lib.hid (below_then B13.out b)
  have OM14 := Lib.hid (OM13.out.kept (fun g hg => b.block g (LG13.out g hg)))
  have LG14 := Lib.hid (fun g hg => Nat.lt_of_lt_of_le (LG13.out g hg) b.size : ∀ g ∈ Fg, g < w14.heap.size)
  clear b
  go_wp2_with fail
  with_reducible refine (HD.out _ _ cg w14.heap.size (OM14.out.texts LG14.out) (Nat.le_refl _)).mono ?_
  rintro e w15 ⟨rfl, b⟩
  have B15 := Lib.hid (below_then B14.out b)
  clear b
  go_wp2
  go_ret
  exact ⟨rfl, B15.out⟩

set_option maxRecDepth 100000 in
theorem lifted (os : Os) (started : os.Started) (H : Type) (enc : TypeId × Value → H) :
    ReturnsInHanded {} Try.checked os 6 .any (Rows.fnExactImplicitClassSpec.pre6 enc Try.prog Try.f6 Rows.fnExactImplicitClassRow.domain false) (Rows.fnExactImplicitClassSpec.post enc Try.prog Try.f6 false true false false) := by
  refine returnsInHanded_of_change (C := Try.checked) own started (by kernel_rfl) Try.func6
    (ChangeSpec.witness6 (enc := enc) (C := Try.checked) false ⟨#[], #[.agg #[.int .i64 0, .slice none 0 0, .slice none 0 0, .slice none 0 0, .slice none 0 0, .slice none 0 0, .int .i64 0, .int .i64 0]], []⟩ 8 (by kernel_rfl) (by kernel_rfl) (by kernel_rfl) (by kernel_rfl)) ?_
  intro W base args ds gs before hval0 hW hcnd _
  have hval : ∀ (j : Nat) t v, Try.f6.params[j]? = some t → args[j]? = some v → Value.okWide Try.prog W .any base t v := hval0
  have hW' := hW
  obtain ⟨p, q, hA0, hV, rfl, hfz, hnd⟩ := hW
  have hA : DataW.TrodAll enc Try.prog W 0 (fun _ => true) true Try.f6.params.toList args.toList ds p := hA0
  rw [Try.params6] at hA hval
  obtain ⟨v0, vs0, d0, ds0, p0, q0, hargs0, rfl, rfl, h0, r0⟩ := trodAll_cons hA
  obtain ⟨hnil, rfl, rfl⟩ := trodAll_nil r0
  have eargs : args.toList = [v0] := by rw [hargs0, hnil]
  obtain rfl : args = #[v0] := Array.toList_inj.1 eargs
  obtain ⟨rfl, rfl⟩ := trodVars_none hV
  have k0 := h0
  have lt0 : ∀ x ∈ p0, x.block < W.heap.size := by obtain ⟨m, hm⟩ := k0; exact DataW.trod_lt m _ _ _ hm
  clear hA0 eargs hargs0
  obtain ⟨d0, x0, hv0, hf0⟩ := vec_in (hval 0 26 v0 rfl rfl) h0
  clear hval0
  refine (walk x0 d0 v0 W hv0 hf0).mono fun e W' ⟨he, bel⟩ => ?_
  subst he
  have kp0 := Below.trod laidOut (show Try.prog.readableRec 26 = true by kernel_rfl) (of_decide_eq_true (by kernel_rfl)) k0 bel lt0
  exact ⟨_, rfl, _, _, _, [], _, [], hW', trodAll_mk1 (shut_bool Try.underlying4 _), (trodAll_cons_mk kp0 trodAll_mk0), rfl, bel.frame _, fun h => by cases h⟩

theorem over : Rows.fnExactImplicitClassRow.holds Try.pinned (OpenSpec.ofChange Rows.fnExactImplicitClassSpec) :=
  OpenClaim.holds_of_wide 6 Try.f6 rfl rfl rfl rfl rfl rfl rfl ⟨rfl, rfl, rfl, rfl, rfl⟩ rfl rfl rfl rfl rfl (by kernel_rfl) Try.func6 (by kernel_rfl)
    (of_decide_eq_true (by kernel_rfl)) (by unfold Func.isWrapper; first | (rw [if_pos (by decide +kernel)]; kernel_rfl) | (rw [if_neg (by decide +kernel)]; exact ⟨rfl, rfl⟩))
    (fun os started H enc _ => lifted os started H enc)

theorem proved : Rows.FnExactImplicitClassSaid := over
end Go.Proofs.Ytemkppdinmfaoaa.fnExactImplicitClass
