/- MakeFactorWith of the reference. -/
import Derived.Test.YtddebgmjolojeaaGreatDoorRows
import Derived.Test.YtddebgmjolojeaaGreatDoorMd3
import Derived.Test.YtddebgmjolojeaaGreatDoorMd2
import Derived.Test.YtddebgmjolojeaaGreatDoorMd1
import Derived.WalkKit
import Derived.OwnWalk
import Derived.Deep.DeepCutAuto
import Derived.Lib.Hide
namespace Go.Proofs.YtddebgmjolojeaaGreatDoor
open Go.RowKit
set_option maxRecDepth 100000
set_option linter.unusedVariables false

theorem small_fac {lv : List ByteArray} {X : List It} {names : List ByteArray} (hX : X.length ≤ 1048576) (hn : names.length ≤ 1048576) (hs : ∀ s ∈ names, s.size ≤ 1048576) (hl : lv.length ≤ 1048576) (hls : ∀ s ∈ lv, s.size ≤ 1048576) : Small 1 (facR lv X names) := by
  show Small 1 (.mk 2 (codL lv X) [] names [facB] lv 0 0)
  unfold Small
  refine ⟨by rw [codL_len]; exact hX, Nat.zero_le _, hn, (by decide : (1 : Nat) ≤ 1048576), hl, fun x hx => ?_, hs, fun s hs => ?_, hls, (fun _ h => by cases h)⟩
  · obtain ⟨i, hi, rfl⟩ := mem_itF hx
    rcases codI_in lv (X.getD i noI) with e | ⟨_, _, e⟩ <;> rw [e] <;> exact Nat.zero_le _
  · obtain rfl := List.mem_singleton.1 hs; decide
set_option maxHeartbeats 8000000 in
theorem specSet (d : Nat) (kk : Int) (items : List It) (parts : List Vec) (names cls levels : List ByteArray) (code env : Int) (val : Value) (la : Option Addr) (lc : Nat) (lv : List ByteArray) (lo hi : Nat) (w : World) (hv : VecAt lo hi w d (.mk kk items parts names cls levels code env) val) (hT : TextsAt lo hi w la lv) (hhi : hi ≤ w.heap.size) (hsm : Small d (.mk kk items parts names cls levels code env)) (hlen : lv.length ≤ 1048576) (hss : ∀ s ∈ lv, s.size ≤ 1048576) (ha : atmS (.mk kk items parts names cls levels code env) = ⟨#[]⟩) :
    Calls Tryz.prog 21 #[val, .slice la lv.length lc] w (ResVS 1 (mfV (.mk kk items parts names cls levels code env) lv) (mfS (.mk kk items parts names cls levels code env) lv) w) := by
  have e := atmS_iff.1 ha
  have ok := atm_ok e.1 e.2
  have hf : FlatOk kk items parts.length names cls levels code env := e.1.1.flat
  have hlen2 : lenV kk items.length parts.length = items.length := by
    have h1 := hf.h_noParts (by have := ok.kind; omega)
    unfold lenV; rw [if_neg (by have := ok.kind; omega), h1]; rfl
  have hnm := hf.h_names
  rw [hlen2] at hnm
  have CC := Lib.hid (fun (W : World) (hb : Below w.heap.size w W) => specCodes d kk items parts names cls levels code env val lo hi W (hv.below hb hhi) (Nat.le_trans hhi hb.size) ok la lc lv (hT.below hb hhi) hlen)
  have VF := Lib.hid (facR_valid (lv := lv) (X := txsL kk items levels) (names := names) (by rw [txsL_len]; exact ok.len) (by rw [txsL_len]; exact hnm) hf.h_named)
  have XN := Lib.hid (fun (h0 : lv.length = 0) => mf_none ha h0)
  have XB := Lib.hid (fun (h0 : ¬ lv.length = 0) (h1 : ¬ LabelsOk (txtS lv) lv.length 20) => mf_bad ha h0 h1)
  have XY := Lib.hid (fun (h0 : ¬ lv.length = 0) (h1 : LabelsOk (txtS lv) lv.length 20) => mf_yes ha h0 h1)
  obtain ⟨d', ai, ci, ap, cp, an, cn, ac, cc, al, cl, ed, rfl, hI, hN, hC, hL, hP⟩ := vecAt_open hv
  subst ed
  have ln : names.length ≤ 1048576 := hsm.2.2.1
  have SX := small_fac (lv := lv) (X := txsL kk items levels) (names := names) (by rw [txsL_len]; exact hsm.1) ln hsm.2.2.2.2.2.2.1 hlen hss
  have CX := Lib.hid (fun (W : World) (x : Value) (hx : VecAt 0 W.heap.size W 1 (facR lv (txsL kk items levels) names) x) => specIsVector 1 (facR lv (txsL kk items levels) names) x 0 W.heap.size W hx (Nat.le_refl _) SX)
  have HN := Lib.hid (fun (W : World) (hb : Below w.heap.size w W) => hN.below hb hhi)
  have HT := Lib.hid (fun (W : World) (hb : Below w.heap.size w W) => hT.below hb hhi)
  obtain ⟨RV, hRV⟩ : ∃ y, mfV (.mk kk items parts names cls levels code env) lv = y := ⟨_, rfl⟩
  obtain ⟨RS, hRS⟩ : ∃ y, mfS (.mk kk items parts names cls levels code env) lv = y := ⟨_, rfl⟩
  rw [hRV, hRS] at XN XB XY ⊢
  obtain ⟨X, hX⟩ : ∃ X, txsL kk items levels = X := ⟨_, rfl⟩
  rw [hX] at CC VF XY CX
  have EF := Lib.hid (show facR lv X names = .mk 2 (codL lv X) [] names [facB] lv 0 0 from rfl)
  obtain ⟨L, hL'⟩ : ∃ L, codL lv X = L := ⟨_, rfl⟩
  rw [hL'] at CC EF
  obtain ⟨FR, hFR⟩ : ∃ y, facR lv X names = y := ⟨_, rfl⟩
  rw [hFR] at VF XY CX EF
  obtain ⟨nl, hnl⟩ : ∃ nl, lv.length = nl := ⟨_, rfl⟩
  have HNL := Lib.hid hnl
  have hlen0 := hlen
  rw [hnl] at CC VF XN XB XY hlen ⊢
  clear hv hI hN hC hL hP hsm hss ha e ok hf hlen2 hnm hX hL' hFR hnl hRV hRS hT
  go_enter Tryz.func21, Tryz.ntmps21
  go_wp2_with fail
  obtain ⟨w1, hw1⟩ : ∃ W, (w.alloc (.cells #[.int .i64 kk, .slice ai items.length ci, .slice ap parts.length cp, .slice an names.length cn, .slice ac cls.length cc, .slice al levels.length cl, .int .i64 code, .int .i64 env] 32)).alloc (.cells #[.int .i64 0, .slice none 0 0, .slice none 0 0, .slice none 0 0, .slice none 0 0, .slice none 0 0, .int .i64 0, .int .i64 0] 32) = W := ⟨_, rfl⟩
  have hs1 : (w.alloc (.cells #[.int .i64 kk, .slice ai items.length ci, .slice ap parts.length cp, .slice an names.length cn, .slice ac cls.length cc, .slice al levels.length cl, .int .i64 code, .int .i64 env] 32)).heap.size = w.heap.size + 1 := by simp
  have B1 := Lib.hid (show Below w.heap.size w w1 from hw1 ▸ below2 w _ _)
  have KA := Lib.hid (show w1.heap[w.heap.size]? = some (.cells #[.int .i64 kk, .slice ai items.length ci, .slice ap parts.length cp, .slice an names.length cn, .slice ac cls.length cc, .slice al levels.length cl, .int .i64 code, .int .i64 env] 32 (0, 0)) from hw1 ▸ blk_old (blk_new w _ rfl))
  have KR := Lib.hid (show w1.heap[w.heap.size + 1]? = some (.cells #[.int .i64 0, .slice none 0 0, .slice none 0 0, .slice none 0 0, .slice none 0 0, .slice none 0 0, .int .i64 0, .int .i64 0] 32 (0, 0)) from hw1 ▸ blk_new _ _ hs1.symm)
  have Z1 := Lib.hid (show w1.heap.size = w.heap.size + 1 + 1 from hw1 ▸ (by simp))
  rw [hw1]
  clear hw1 hs1
  with_reducible refine (CC.out _ B1.out).mono ?_
  rintro e w2 ⟨y, rfl, ho, b⟩
  obtain ⟨yi, ci', yp, cp', yn, cn', yc, cc', yl, cl', Fi, rfl, hit⟩ := its_of_own ho (Nat.le_refl _)
  have B2 := Lib.hid (below_then B1.out b)
  have KA := Lib.hid (blk_below b KA.out)
  have KR := Lib.hid (blk_below b KR.out)
  have S2 := Lib.hid b.size
  obtain ⟨n, hn⟩ : ∃ n, L.length = n := ⟨_, rfl⟩
  have HLN := Lib.hid hn
  rw [hn] at ⊢
  have IT := Lib.hid hit
  clear b ho CC hn hit
  obtain ⟨bx, hbx⟩ : ∃ b, w2.heap.size = b := ⟨_, rfl⟩
  obtain ⟨w3, hw3⟩ : ∃ W, w2.alloc (.cells #[.int .i64 2, .slice yi n ci', .slice yp 0 cp', .slice yn 0 cn', .slice yc 0 cc', .slice yl 0 cl', .int .i64 0, .int .i64 0] 32) = W := ⟨_, rfl⟩
  have KX := Lib.hid (show w3.heap[bx]? = some (.cells #[.int .i64 2, .slice yi n ci', .slice yp 0 cp', .slice yn 0 cn', .slice yc 0 cc', .slice yl 0 cl', .int .i64 0, .int .i64 0] 32 (0, 0)) from hw3 ▸ blk_new w2 _ hbx.symm)
  have KA := Lib.hid (show w3.heap[w.heap.size]? = _ from hw3 ▸ blk_old KA.out)
  have KR := Lib.hid (show w3.heap[w.heap.size + 1]? = some (.cells #[.int .i64 0, .slice none 0 0, .slice none 0 0, .slice none 0 0, .slice none 0 0, .slice none 0 0, .int .i64 0, .int .i64 0] 32 (0, 0)) from hw3 ▸ blk_old KR.out)
  have BW := Lib.hid (show Below w.heap.size w w3 from hw3 ▸ B2.out.alloc B2.out.size _)
  have IT := Lib.hid (show ItsC yi ci' L Fi w1.heap.size bx w3 from hw3 ▸ hbx ▸ IT.out.keep (below1 w2 _))
  have S3 := Lib.hid (show w3.heap.size = bx + 1 from hw3 ▸ (by simp [hbx]))
  have hbl : bx < w3.heap.size := by rw [S3.out]; omega
  have hbw1 : w.heap.size + 1 + 1 ≤ bx := by have := S2.out; have := Z1.out; omega
  have EW3 := Lib.hid hw3
  have EBX := Lib.hid hbx
  clear hbx hw3 B2
  obtain ⟨k0, k1, k2, k3, k4, k5, k6, k7⟩ := vec8 KA.out
  have hltA := (Array.getElem?_eq_some_iff.1 KA.out).1
  go_upto_region 2 with (fail)
  rw [EW3.out, EBX.out]
  clear k0 k1 k2 k3 k4 k5 k6 k7
  obtain ⟨k0, k1, k2, k3, k4, k5, k6, k7⟩ := vec8 KA.out
  go_wp2_with (at_builtin; go_loud (refine wpList_copyTexts rfl _ _ rfl w3.heap.size _ rfl (.inr ⟨w3.heap.size, Nat.le_refl _, rfl, blk_new _ _ rfl⟩) an cn names lo hi rfl (HN.out _ (BW.out.alloc BW.out.size _)) ln (Nat.le_of_lt (by simp)) ?_))
  intro v5 w5 hcp hb5
  obtain ⟨sn, qn, Fn, rfl, ht⟩ := TxsC.of hcp
  have b6 : Below w3.heap.size w3 w5 := (below1 w3 _).trans hb5
  have BW := Lib.hid (below_then BW.out b6)
  have KX := Lib.hid (blk_below b6 KX.out)
  have KA := Lib.hid (blk_below b6 KA.out)
  have KR := Lib.hid (blk_below b6 KR.out)
  have IT := Lib.hid (IT.out.keep b6)
  have TN := Lib.hid ht
  have Sw5 := Lib.hid b6.size
  have hbl2 : bx < w5.heap.size := Nat.lt_of_lt_of_le hbl b6.size
  clear b6 hb5 ht hcp
  obtain ⟨g0, g1, g2, g3, g4, g5, g6, g7⟩ := vec8 KX.out
  obtain ⟨f0, f1, f2, f3, f4, f5, f6, f7⟩ := free8 KX.out
  go_upto_region 3 with (fail)
  obtain ⟨w6, hw⟩ : ∃ W, w5.setCell ⟨bx, 3, none⟩ (.slice sn names.length qn) = W := ⟨_, rfl⟩
  have KX := Lib.hid (show w6.heap[bx]? = some (.cells #[.int .i64 2, .slice yi n ci', .slice yp 0 cp', .slice sn names.length qn, .slice yc 0 cc', .slice yl 0 cl', .int .i64 0, .int .i64 0] 32 (0, 0)) from hw ▸ Joins.block_setCell KX.out _)
  have hk : ∀ g, g ≠ bx → w6.heap[g]? = w5.heap[g]? := fun g hg => hw ▸ Below.heap_setCell _ _ _ _ hg
  have KA := Lib.hid ((hk _ (show w.heap.size ≠ bx by omega)).trans KA.out)
  have KR := Lib.hid ((hk _ (show w.heap.size + 1 ≠ bx by omega)).trans KR.out)
  have BW := Lib.hid (show Below w.heap.size w w6 from hw ▸ BW.out.setCell (p := ⟨bx, 3, none⟩) (show w.heap.size ≤ bx by omega) _)
  have SZ := Lib.hid (show w6.heap.size = w5.heap.size from hw ▸ (by simp))
  have IT := Lib.hid (show ItsC yi ci' L Fi w1.heap.size bx w6 from IT.out.same (fun g h1 h2 => hk g (by have := S3.out; skip; omega)) (by rw [SZ.out]; exact Nat.le_refl _))
  have TN := Lib.hid (show TxsC sn qn names Fn w3.heap.size w5.heap.size w6 from TN.out.same (fun g h1 h2 => hk g (by have := S3.out; skip; omega)) (by rw [SZ.out]; exact Nat.le_refl _))
  rw [hw]
  have hbl : bx < w6.heap.size := by rw [SZ.out]; exact hbl2
  have Zw6 := Lib.hid SZ.out
  clear g0 g1 g2 g3 g4 g5 g6 g7 f0 f1 f2 f3 f4 f5 f6 f7
  clear hw hbl2 SZ hk
  clear hltA k0 k1 k2 k3 k4 k5 k6 k7
  obtain ⟨g0, g1, g2, g3, g4, g5, g6, g7⟩ := vec8 KX.out
  obtain ⟨f0, f1, f2, f3, f4, f5, f6, f7⟩ := free8 KX.out
  go_upto_region 4 with (fail)
  clear g0 g1 g2 g3 g4 g5 g6 g7 f0 f1 f2 f3 f4 f5 f6 f7
  obtain ⟨gc, hgc⟩ : ∃ g, w6.heap.size = g := ⟨_, rfl⟩
  rw [hgc]
  obtain ⟨w7, hw⟩ : ∃ W, (w6.setCell ⟨bx, 4, none⟩ (.slice (some ⟨gc, 0, none⟩) 1 1)).alloc (.cells #[.string ⟨#[102, 97, 99, 116, 111, 114]⟩] 9) = W := ⟨_, rfl⟩
  have GC := Lib.hid (show bx < gc by rw [← hgc]; exact hbl)
  have hk : ∀ g, g ≠ bx → g < gc → w7.heap[g]? = w6.heap[g]? := fun g hg hl => hw ▸ ((below1 _ _).block g (by simp; omega)).trans (Below.heap_setCell _ _ _ _ hg)
  have KX := Lib.hid (show w7.heap[bx]? = some (.cells #[.int .i64 2, .slice yi n ci', .slice yp 0 cp', .slice sn names.length qn, .slice (some ⟨gc, 0, none⟩) 1 1, .slice yl 0 cl', .int .i64 0, .int .i64 0] 32 (0, 0)) from hw ▸ blk_old (Joins.block_setCell KX.out _))
  have KA := Lib.hid ((hk _ (show w.heap.size ≠ bx by omega) (by have := GC.out; omega)).trans KA.out)
  have KR := Lib.hid ((hk _ (show w.heap.size + 1 ≠ bx by omega) (by have := GC.out; omega)).trans KR.out)
  have NC := Lib.hid (show NewB gc 9 #[.string facB] w7 from ⟨hw ▸ blk_new _ _ (by simp [hgc])⟩)
  have BW := Lib.hid (show Below w.heap.size w w7 from hw ▸ (BW.out.setCell (p := ⟨bx, 4, none⟩) (show w.heap.size ≤ bx by omega) _).alloc (by simp; omega) _)
  have Z7 := Lib.hid (show w7.heap.size = gc + 1 from hw ▸ (by simp [hgc]))
  have IT := Lib.hid (show ItsC yi ci' L Fi w1.heap.size bx w7 from IT.out.same (fun g h1 h2 => hk g (by omega) (by have := GC.out; omega)) (by rw [Z7.out]; omega))
  have TN := Lib.hid (show TxsC sn qn names Fn w3.heap.size w5.heap.size w7 from TN.out.same (fun g h1 h2 => hk g (by have := S3.out; omega) (by have := Zw6.out; omega)) (by rw [Z7.out]; omega))
  have hbl : bx < w7.heap.size := by rw [Z7.out]; have := GC.out; omega
  have HGC := Lib.hid hgc
  rw [hw]
  clear hw hk hgc
  skip
  go_wp2_with (at_builtin; go_loud (refine wpList_copyTexts rfl _ _ rfl w7.heap.size _ rfl (.inr ⟨w7.heap.size, Nat.le_refl _, rfl, blk_new _ _ rfl⟩) la lc lv lo hi (by rw [HNL.out]; rfl) (HT.out _ (BW.out.alloc BW.out.size _)) hlen0 (Nat.le_of_lt (by simp)) ?_))
  intro v5 w8 hcp hb5
  obtain ⟨sl, ql, Fl, rfl, ht⟩ := TxsC.of hcp
  have b6 : Below w7.heap.size w7 w8 := (below1 w7 _).trans hb5
  have BW := Lib.hid (below_then BW.out b6)
  have KX := Lib.hid (blk_below b6 KX.out)
  have KA := Lib.hid (blk_below b6 KA.out)
  have KR := Lib.hid (blk_below b6 KR.out)
  have IT := Lib.hid (IT.out.keep b6)
  have TN := Lib.hid (TN.out.keep b6)
  have NC := Lib.hid (NC.out.keep b6)
  have TL := Lib.hid ht
  have Sw8 := Lib.hid b6.size
  have hbl2 : bx < w8.heap.size := Nat.lt_of_lt_of_le hbl b6.size
  clear b6 hb5 ht hcp
  rw [HNL.out]
  obtain ⟨g0, g1, g2, g3, g4, g5, g6, g7⟩ := vec8 KX.out
  obtain ⟨f0, f1, f2, f3, f4, f5, f6, f7⟩ := free8 KX.out
  go_upto_region 5 with (fail)
  obtain ⟨w9, hw⟩ : ∃ W, w8.setCell ⟨bx, 5, none⟩ (.slice sl nl ql) = W := ⟨_, rfl⟩
  have KX := Lib.hid (show w9.heap[bx]? = some (.cells #[.int .i64 2, .slice yi n ci', .slice yp 0 cp', .slice sn names.length qn, .slice (some ⟨gc, 0, none⟩) 1 1, .slice sl nl ql, .int .i64 0, .int .i64 0] 32 (0, 0)) from hw ▸ Joins.block_setCell KX.out _)
  have hk : ∀ g, g ≠ bx → w9.heap[g]? = w8.heap[g]? := fun g hg => hw ▸ Below.heap_setCell _ _ _ _ hg
  have KA := Lib.hid ((hk _ (show w.heap.size ≠ bx by omega)).trans KA.out)
  have KR := Lib.hid ((hk _ (show w.heap.size + 1 ≠ bx by omega)).trans KR.out)
  have BW := Lib.hid (show Below w.heap.size w w9 from hw ▸ BW.out.setCell (p := ⟨bx, 5, none⟩) (show w.heap.size ≤ bx by omega) _)
  have SZ := Lib.hid (show w9.heap.size = w8.heap.size from hw ▸ (by simp))
  have IT := Lib.hid (show ItsC yi ci' L Fi w1.heap.size bx w9 from IT.out.same (fun g h1 h2 => hk g (by have := S3.out; have := Z7.out; have := GC.out; have := Zw6.out; have := Sw5.out; omega)) (by rw [SZ.out]; exact Nat.le_refl _))
  have TN := Lib.hid (show TxsC sn qn names Fn w3.heap.size w5.heap.size w9 from TN.out.same (fun g h1 h2 => hk g (by have := S3.out; have := Z7.out; have := GC.out; have := Zw6.out; have := Sw5.out; omega)) (by rw [SZ.out]; exact Nat.le_refl _))
  have TL := Lib.hid (show TxsC sl ql lv Fl w7.heap.size w8.heap.size w9 from TL.out.same (fun g h1 h2 => hk g (by have := S3.out; have := Z7.out; have := GC.out; have := Zw6.out; have := Sw5.out; omega)) (by rw [SZ.out]; exact Nat.le_refl _))
  have NC := Lib.hid (show NewB gc 9 #[.string facB] w9 from ⟨(hk gc (by have := GC.out; omega)).trans NC.out.out⟩)
  rw [hw]
  have hbl : bx < w9.heap.size := by rw [SZ.out]; exact hbl2
  have Zw9 := Lib.hid SZ.out
  clear g0 g1 g2 g3 g4 g5 g6 g7 f0 f1 f2 f3 f4 f5 f6 f7
  clear hw hbl2 SZ hk
  by_cases h0 : nl = 0
  · have XV1 := Lib.hid (XN.out h0)
    clear XN XB XY
    subst h0
    obtain ⟨z0, z1, z2, z3, z4, z5, z6, z7⟩ := vec8 KR.out
    obtain ⟨f0, f1, f2, f3, f4, f5, f6, f7⟩ := free8 KR.out
    go_wp2
    rw [XV1.out.1, XV1.out.2]
    exact vec_endS rfl rfl rfl rfl KR.out (zeroS _ w _ (put8_below BW.out (Nat.le_succ _)))
  · have h0b : ((nl : Int) == 0) = false := beq_eq_false_iff_ne.2 (by omega)
    have OW := Lib.hid (show Own 1 FR (.agg #[.int .i64 2, .slice yi n ci', .slice yp 0 cp', .slice sn names.length qn, .slice (some ⟨gc, 0, none⟩) 1 1, .slice sl nl ql, .int .i64 0, .int .i64 0]) w1.heap.size w9.heap.size w9 from by
      have e0 := S3.out
      have e1 := Z7.out
      have e2 := Zw6.out
      have e3 := Sw5.out
      have e4 := Sw8.out
      have e5 := GC.out
      have e6 := HGC.out
      have e7 := S2.out
      have e8 := EBX.out
      have q := fac_own (pa := yp) (pc := cp') (lo := w1.heap.size) IT.out TN.out NC.out TL.out (Nat.le_refl _) (by omega) (by omega) (by omega) (by omega) (by omega) (.inr (.inr (.inl (by omega))))
      rw [HLN.out, HNL.out] at q
      rw [EF.out]
      exact q)
    have VX := Lib.hid (OW.out.vat (Nat.le_refl _))
    obtain ⟨g0, g1, g2, g3, g4, g5, g6, g7⟩ := vec8 KX.out
    go_wp2_with fail
    with_reducible refine (CX.out _ _ VX.out).mono ?_
    rintro e w10 ⟨rfl, b⟩
    have B10 := Lib.hid (below_then BW.out b)
    have KR := Lib.hid (blk_below b KR.out)
    have KX := Lib.hid (blk_below b KX.out)
    have OW := Lib.hid (OW.out.below b (Nat.le_refl _))
    have S10 := Lib.hid b.size
    clear b g0 g1 g2 g3 g4 g5 g6 g7 VX
    by_cases h1 : LabelsOk (txtS lv) nl 20
    · have XV1 := Lib.hid (XY.out h0 h1)
      rw [bB_yes (VF.out.2 h1)]
      clear XN XB XY h1 VF CX
      have hr1 : w.heap.size + 1 < w1.heap.size := by have := Z1.out; omega
      have L1 := Lib.hid B1.out.size
      obtain ⟨g0, g1, g2, g3, g4, g5, g6, g7⟩ := vec8 KX.out
      obtain ⟨z0, z1, z2, z3, z4, z5, z6, z7⟩ := vec8 KR.out
      obtain ⟨f0, f1, f2, f3, f4, f5, f6, f7⟩ := free8 KR.out
      go_wp2
      rw [XV1.out.1, XV1.out.2]
      exact vec_endS rfl rfl rfl rfl KR.out ⟨_, rfl, (OW.out.put8 hr1 _ _ _ _ _ _ _ _).wide L1.out (by rw [put8_size]; exact S10.out), put8_below B10.out (Nat.le_succ _)⟩
    · have XV1 := Lib.hid (XB.out h0 h1)
      rw [bB_no (fun h => h1 (VF.out.1 h))]
      clear XN XB XY h1 VF CX
      obtain ⟨z0, z1, z2, z3, z4, z5, z6, z7⟩ := vec8 KR.out
      obtain ⟨f0, f1, f2, f3, f4, f5, f6, f7⟩ := free8 KR.out
      go_wp2
      rw [XV1.out.1, XV1.out.2]
      exact vec_endS rfl rfl rfl rfl KR.out (zeroS _ w _ (put8_below B10.out (Nat.le_succ _)))
end Go.Proofs.YtddebgmjolojeaaGreatDoor

/- DropLevels, both sides. -/
namespace Go.Proofs.YtddebgmjolojeaaGreatDoor
open Go.RowKit
set_option maxRecDepth 100000
set_option linter.unusedVariables false

theorem fac_two {kk : Int} {items : List It} {parts : List Vec} {names cls levels : List ByteArray} {code env : Int} (h : FacV (.mk kk items parts names cls levels code env)) : kk = 2 := by
  have hf : FlatOk kk items parts.length names cls levels code env := h.1.1.flat
  by_cases e : kk = 2
  · exact e
  · exact absurd (hf.h_noLevels e) h.2.1
/-- The levels that occur. -/
def occT (lv : List ByteArray) (X : List It) : Nat → List ByteArray
  | 0 => []
  | k + 1 => if cntX X X.length k = 0 then occT lv X k else occT lv X k ++ [lv.getD k ⟨#[]⟩]
theorem occ_no {lv : List ByteArray} {X : List It} {k : Nat} (h : cntX X X.length k = 0) : occT lv X (k + 1) = occT lv X k := by simp only [occT]; rw [if_pos h]
theorem occ_yes {lv : List ByteArray} {X : List It} {k : Nat} (h : ¬ cntX X X.length k = 0) : occT lv X (k + 1) = occT lv X k ++ [lv.getD k ⟨#[]⟩] := by simp only [occT]; rw [if_neg h]
theorem occ_len (lv : List ByteArray) (X : List It) : ∀ k, (occT lv X k).length ≤ k
  | 0 => Nat.le_refl _
  | k + 1 => by
    have := occ_len lv X k
    simp only [occT]
    split
    · omega
    · rw [List.length_append, List.length_cons, List.length_nil]; omega
theorem occ_mem {lv : List ByteArray} {X : List It} : ∀ {k : Nat} {s : ByteArray}, s ∈ occT lv X k → ∃ j, j < k ∧ s = lv.getD j ⟨#[]⟩
  | 0, s, h => by cases h
  | k + 1, s, h => by
    simp only [occT] at h
    split at h
    · obtain ⟨j, hj, e⟩ := occ_mem h; exact ⟨j, by omega, e⟩
    · rcases List.mem_append.1 h with h | h
      · obtain ⟨j, hj, e⟩ := occ_mem h; exact ⟨j, by omega, e⟩
      · obtain rfl := List.mem_singleton.1 h; exact ⟨k, by omega, rfl⟩
/-- What DropLevels answers. -/
def dlL (v : Vec) : List ByteArray := match v with | .mk _ items _ _ _ levels _ _ => occT levels (pickL true items) levels.length
noncomputable def dlV (v : Vec) : Vec := match bB (FacV v) with
  | true => mfV v (dlL v)
  | false => noV
noncomputable def dlS (v : Vec) : ByteArray := match bB (FacV v) with
  | true => mfS v (dlL v)
  | false => ⟨#[110, 111, 116, 32, 97, 32, 102, 97, 99, 116, 111, 114]⟩
theorem dl_not {v : Vec} (h : ¬ FacV v) : dlV v = noV ∧ dlS v = ⟨#[110, 111, 116, 32, 97, 32, 102, 97, 99, 116, 111, 114]⟩ := by unfold dlV dlS; rw [bB_no h]; exact ⟨rfl, rfl⟩
theorem dl_yes {v : Vec} (h : FacV v) : dlV v = mfV v (dlL v) ∧ dlS v = mfS v (dlL v) := by unfold dlV dlS; rw [bB_yes h]; exact ⟨rfl, rfl⟩
theorem fac_its {kk : Int} {items : List It} {parts : List Vec} {names cls levels : List ByteArray} {code env : Int} (h : FacV (.mk kk items parts names cls levels code env)) : (∀ i, i < items.length → ItOk 2 (items.getD i noI) ∧ LevOk levels.length (items.getD i noI)) ∧ levels.length ≤ 20 ∧ items.length ≤ 40 ∧ (∀ i, i < levels.length → (levels.getD i ⟨#[]⟩).size ≤ 60) := by
  have hf : FlatOk kk items parts.length names cls levels code env := h.1.1.flat
  have hk := fac_two h
  subst hk
  have hl := hf.h_len
  unfold lenV at hl
  rw [if_neg (by decide)] at hl
  exact ⟨hf.h_items, hf.h_levels.1, by omega, fun i hi => (hf.h_levels.2 i hi).2.1⟩
theorem dlL_small {v : Vec} (h : FacV v) : (dlL v).length ≤ 20 ∧ ∀ s ∈ dlL v, s.size ≤ 60 := by
  obtain ⟨kk, items, parts, names, cls, levels, code, env⟩ := v
  obtain ⟨_, h1, _, h2⟩ := fac_its h
  refine ⟨Nat.le_trans (occ_len _ _ _) h1, fun s hs => ?_⟩
  obtain ⟨j, hj, rfl⟩ := occ_mem hs
  exact h2 j hj
/-- A level occurs where its code is found among the elements. -/
theorem occ_first {items : List It} {nl k : Nat} {r : Int} (hit : ∀ i, i < items.length → ItOk 2 (items.getD i noI) ∧ LevOk nl (items.getD i noI)) (hn : ¬ nl = 0) (h : FirstIs items ⟨(k : Int) + 1, 1, ⟨#[]⟩⟩ r) : 0 ≤ r ↔ ¬ cntX (pickL true items) (pickL true items).length k = 0 := by
  rw [cntX_pos]
  constructor
  · intro hr
    obtain ⟨j, hj, e⟩ := h.hit (by omega)
    refine ⟨items.getD j noI, List.mem_filter.2 ⟨by rw [List.getD_eq_getElem?_getD, List.getElem?_eq_getElem hj]; exact List.getElem_mem hj, by rw [e]; rfl⟩, by rw [e]⟩
  · rintro ⟨x, hx, hxn⟩
    obtain ⟨i, hi, e⟩ := mem_getD (z := noI) (pickL_mem hx)
    have h1 := hit i hi
    rw [e] at h1
    have h2 : keepI true x = true := (List.mem_filter.1 hx).2
    have h3 : ¬ x.d = 0 := by unfold keepI at h2; simpa using h2
    refine Classical.byContradiction fun hr => h.miss (by omega) i hi ?_
    rw [e]
    obtain ⟨xn, xd, xt⟩ := x
    have h4 := num_of_two h1.1
    have h5 : xt = ⟨#[]⟩ := h4.t
    rcases h1.2 with q | q | ⟨q, _⟩
    · exact absurd q hn
    · exact absurd q h3
    · have q1 : xd = 1 := q
      have q2 : xn = (k : Int) + 1 := hxn
      rw [h5, q1, q2]
set_option maxHeartbeats 8000000 in
theorem implDropLevels (d : Nat) (v : Vec) (val : Value) (lo hi : Nat) (w : World) (hv : VecAt lo hi w d v val) (hhi : hi ≤ w.heap.size) (hsm : Small d v) (tab : Lib.TabIs Tryz.prog w "internal/strconv.uint64pow10" .u64 Lib.pow10Tab) :
    Calls Tryz.prog 17 #[val] w (ResVS 1 (dlV v) (dlS v) w) := by
  have C1 := Lib.hid (fun (w1 : World) (hb : Below w.heap.size w w1) => implIsFactor d v val lo hi w1 (hv.below hb hhi) (Nat.le_trans hhi hb.size) hsm)
  have CM := Lib.hid (fun (lv : List ByteArray) (W : World) (la : Option Addr) (lc : Nat) (hb : Below w.heap.size w W) (hT : TextsAt 0 W.heap.size W la lv) (hcap : lv.length ≤ lc) (hl : lv.length ≤ 20 ∧ ∀ s ∈ lv, s.size ≤ 60) => implMakeFactorWith d v lv val la lc 0 W.heap.size W ((hv.below hb hhi).wide (Nat.zero_le _) (Nat.le_trans hhi hb.size)) hT (Nat.le_refl _) hsm hcap (by omega) (fun s hs => by have := hl.2 s hs; omega) (tab_below tab hb))
  obtain ⟨VV, hVV⟩ : ∃ V, v = V := ⟨_, rfl⟩
  rw [hVV] at C1 ⊢
  obtain ⟨kk, items, parts, names, cls, levels, code, env⟩ := v
  have hv0 := hv
  obtain ⟨d', ai, ci, ap, cp, an, cn, ac, cc, al, cl, ed, rfl, hI, hN, hC, hL, hP⟩ := vecAt_open hv
  have XD := Lib.hid (show dlL VV = occT levels (pickL true items) levels.length from by rw [← hVV]; rfl)
  have XY := Lib.hid (fun (h : FacV VV) => dl_yes h)
  have XN := Lib.hid (fun (h : ¬ FacV VV) => dl_not h)
  have XS := Lib.hid (fun (h : FacV VV) => dlL_small h)
  have FI := Lib.hid (fun (h : FacV VV) => (by rw [← hVV] at h; exact ⟨fac_its h, h.2.1⟩ : ((∀ i, i < items.length → ItOk 2 (items.getD i noI) ∧ LevOk levels.length (items.getD i noI)) ∧ levels.length ≤ 20 ∧ items.length ≤ 40 ∧ (∀ i, i < levels.length → (levels.getD i ⟨#[]⟩).size ≤ 60)) ∧ ¬ levels.length = 0))
  have AI := Lib.hid (fun (k : Nat) (W : World) (hk : k < levels.length) (hb : Below w.heap.size w W) => (hL.below hb hhi) k (levels.getD k ⟨#[]⟩) (by rw [List.getD_eq_getElem?_getD, List.getElem?_eq_getElem hk]; rfl))
  have CC := Lib.hid (fun (h : FacV VV) (W : World) (hb : Below w.heap.size w W) => implCounts d kk items parts names cls levels code env _ lo hi W (hv0.below hb hhi) (Nat.le_trans hhi hb.size) (FI.out h).1.1 (FI.out h).2 (FI.out h).1.2.1 (FI.out h).1.2.2.1)
  rw [hVV] at CM
  obtain ⟨X, hX⟩ : ∃ X, pickL true items = X := ⟨_, rfl⟩
  obtain ⟨RV, hRV⟩ : ∃ y, dlV VV = y := ⟨_, rfl⟩
  obtain ⟨RS, hRS⟩ : ∃ y, dlS VV = y := ⟨_, rfl⟩
  obtain ⟨OT, hOT⟩ : ∃ f : Nat → List ByteArray, occT levels X = f := ⟨_, rfl⟩
  have O0 := Lib.hid (show OT 0 = [] by rw [← hOT]; rfl)
  have ON := Lib.hid (fun (k : Nat) (h : cntX X X.length k = 0) => (by rw [← hOT]; exact occ_no h : OT (k + 1) = OT k))
  have OY := Lib.hid (fun (k : Nat) (h : ¬ cntX X X.length k = 0) => (by rw [← hOT]; exact occ_yes h : OT (k + 1) = OT k ++ [levels.getD k ⟨#[]⟩]))
  have OL := Lib.hid (fun (k : Nat) => (by rw [← hOT]; exact occ_len _ _ k : (OT k).length ≤ k))
  rw [hX, hOT] at XD
  rw [hX] at CC
  rw [hRV, hRS] at XY XN ⊢
  obtain ⟨nl, hnl⟩ : ∃ nl, levels.length = nl := ⟨_, rfl⟩
  rw [hnl] at CC CM XD FI AI C1 ⊢
  clear hv hv0 hI hN hC hL hP hsm hVV hX tab hRV hRS ed hnl hOT
  go_enter Tryz.func17, Tryz.ntmps17
  go_wp2_with fail
  obtain ⟨w1, hw1⟩ : ∃ W, (w.alloc (.cells #[.int .i64 kk, .slice ai items.length ci, .slice ap parts.length cp, .slice an names.length cn, .slice ac cls.length cc, .slice al nl cl, .int .i64 code, .int .i64 env] 32)).alloc (.cells #[.int .i64 0, .slice none 0 0, .slice none 0 0, .slice none 0 0, .slice none 0 0, .slice none 0 0, .int .i64 0, .int .i64 0] 32) = W := ⟨_, rfl⟩
  have hs1 : (w.alloc (.cells #[.int .i64 kk, .slice ai items.length ci, .slice ap parts.length cp, .slice an names.length cn, .slice ac cls.length cc, .slice al nl cl, .int .i64 code, .int .i64 env] 32)).heap.size = w.heap.size + 1 := by simp
  have B1 := Lib.hid (show Below w.heap.size w w1 from hw1 ▸ below2 w _ _)
  have KA := Lib.hid (show w1.heap[w.heap.size]? = some (.cells #[.int .i64 kk, .slice ai items.length ci, .slice ap parts.length cp, .slice an names.length cn, .slice ac cls.length cc, .slice al nl cl, .int .i64 code, .int .i64 env] 32 (0, 0)) from hw1 ▸ blk_old (blk_new w _ rfl))
  have KR := Lib.hid (show w1.heap[w.heap.size + 1]? = some (.cells #[.int .i64 0, .slice none 0 0, .slice none 0 0, .slice none 0 0, .slice none 0 0, .slice none 0 0, .int .i64 0, .int .i64 0] 32 (0, 0)) from hw1 ▸ blk_new _ _ hs1.symm)
  rw [hw1]
  clear hw1 hs1
  with_reducible refine (C1.out _ B1.out).mono ?_
  rintro e w2 ⟨rfl, b⟩
  have B2 := Lib.hid (below_then B1.out b)
  have KA := Lib.hid (blk_below b KA.out)
  have KR := Lib.hid (blk_below b KR.out)
  clear b C1
  by_cases q : FacV VV
  · have XV1 := Lib.hid (XY.out q)
    have XS := Lib.hid (XS.out q)
    have CC := Lib.hid (CC.out q)
    obtain ⟨⟨_, ll, _, _⟩, _⟩ := FI.out q
    rw [XD.out] at XV1 XS
    rw [bB_yes q]
    clear q XY XN FI XD
    obtain ⟨k0, k1, k2, k3, k4, k5, k6, k7⟩ := vec8 KA.out
    go_wp2_with fail
    with_reducible refine (CC.out _ B2.out).mono ?_
    rintro e w3 ⟨v, rfl, hz⟩
    have B3 := Lib.hid (below_then B2.out hz.below)
    have KA := Lib.hid (blk_below hz.below KA.out)
    have KR := Lib.hid (blk_below hz.below KR.out)
    have hr3 : w.heap.size + 1 < w3.heap.size := (Array.getElem?_eq_some_iff.1 KR.out).1
    obtain ⟨sa, c, rfl, hI⟩ := hz.ints
    rw [cntL_len] at hI ⊢
    have HI := Lib.hid (fun (k : Nat) (hk : k < nl) => (by have q := hI k hk; rw [← cntL_at (X := X) (k := X.length) hk]; exact q : ∃ b off, sa = some ⟨b, off, none⟩ ∧ b < w3.heap.size ∧ w3.cell? ⟨b, off + k, none⟩ = some (.int .i64 (cntX X X.length k : Int))))
    clear hz hI CC k0 k1 k2 k3 k4 k5 k6 k7
    have ST := Lib.hid (TxZ.nil w3 w3 (Below.refl _ _))
    go_wp2
    go_loopw [4, 14] (fun v i wr => ∃ (k : Nat) (T : List ByteArray), k ≤ nl ∧ i = .int .i64 k ∧ T = OT k ∧ TxZ w3 wr T v) (fun _ i _ => nl - (intOf i).toNat)
    case atStart => exact ⟨0, [], Nat.zero_le _, rfl, O0.out.symm, ST.out⟩
    case round =>
      obtain ⟨k, T, hk, rfl, hT, htz⟩ := hrel
      have TZ := Lib.hid htz
      have HT := Lib.hid hT
      clear htz hT
      have BWR := Lib.hid (below_then B3.out TZ.out.below)
      have KA := Lib.hid (blk_below TZ.out.below KA.out)
      obtain ⟨k0, k1, k2, k3, k4, k5, k6, k7⟩ := vec8 KA.out
      by_cases hlt : k < nl
      · obtain ⟨b, off, rfl, hb, hc'⟩ := HI.out k hlt
        have hc := (TZ.out.below.cell hb : wr.cell? ⟨b, off + k, none⟩ = _).trans hc'
        have hbw : b < wr.heap.size := Nat.lt_of_lt_of_le hb TZ.out.below.size
        obtain ⟨b2, off2, rfl, _, hb2, hs'⟩ := AI.out k wr hlt BWR.out
        have hb2w : b2 < wr.heap.size := Nat.lt_of_lt_of_le hb2 (Nat.le_trans hhi BWR.out.size)
        have ONk := Lib.hid (ON.out k)
        have OYk := Lib.hid (OY.out k)
        have LN := Lib.hid (show T.length ≤ 1048576 by have := OL.out k; rw [HT.out]; omega)
        obtain ⟨m, hm⟩ : ∃ m, cntX X X.length k = m := ⟨_, rfl⟩
        rw [hm] at hc ONk OYk
        obtain ⟨s, hs⟩ : ∃ s, levels.getD k ⟨#[]⟩ = s := ⟨_, rfl⟩
        rw [hs] at OYk hs'
        clear hc' hm hs
        by_cases h0 : m = 0
        · have NX := Lib.hid (show T = OT (k + 1) by rw [ONk.out h0]; exact HT.out)
          subst h0
          clear ONk OYk HT
          go_wp2
          go_roundw
          case rel => exact ⟨k + 1, T, by omega, by go_num, NX.out, TZ.out⟩
          case measure => simp [intOf]; omega
        · have NX := Lib.hid (show T ++ [s] = OT (k + 1) by rw [OYk.out h0, HT.out])
          have hpos : (m : Int) > 0 := by omega
          clear ONk OYk HT h0
          go_wp2_with (at_builtin; go_loud (refine wpList_appTx rfl _ _ rfl s T _ _ rfl rfl (TZ.out.keep (below1 _ _)) (blk_new _ _ rfl) LN.out ?_))
          intro v' w4 hir
          have IN := Lib.hid hir
          clear hir
          go_wp2
          go_roundw
          case rel => exact ⟨k + 1, _, by omega, by go_num, NX.out, IN.out⟩
          case measure => simp [intOf]; omega
      · obtain rfl : k = nl := by omega
        obtain ⟨sl, ql, Fl, rfl, hot, hnd, hrg, hqc⟩ := txs_of_row TZ.out.row
        have HX := Lib.hid (hot.texts (hi := wr.heap.size) (fun b hb => (hrg b hb).2))
        have QC := Lib.hid hqc
        have KR := Lib.hid (blk_below TZ.out.below KR.out)
        have hr4 : w.heap.size + 1 < wr.heap.size := (Array.getElem?_eq_some_iff.1 KR.out).1
        have CM := Lib.hid (CM.out T wr sl ql BWR.out HX.out QC.out (by rw [HT.out]; exact XS.out))
        rw [HT.out] at CM
        rw [← XV1.out.1, ← XV1.out.2] at CM
        have ET := HT.out
        subst ET
        clear hot hnd hrg hqc XV1 XS HX QC TZ HI AI ON OY OL O0 ST
        go_wp2_with fail
        with_reducible refine (CM.out).mono ?_
        rintro e w9 ⟨y, rfl, ho, b⟩
        have B9 := Lib.hid (below_then BWR.out b)
        have KR := Lib.hid (blk_below b KR.out)
        obtain ⟨yk, ya1, yn1, ym1, ya2, yn2, ym2, ya3, yn3, ym3, ya4, yn4, ym4, ya5, yn5, ym5, yc, ye, rfl⟩ := (ho.vat (Nat.le_refl _)).agg
        have HO := Lib.hid ho
        have LW := Lib.hid BWR.out.size
        clear ho b
        clear k0 k1 k2 k3 k4 k5 k6 k7
        obtain ⟨z0, z1, z2, z3, z4, z5, z6, z7⟩ := vec8 KR.out
        obtain ⟨f0, f1, f2, f3, f4, f5, f6, f7⟩ := free8 KR.out
        go_wp2
        exact vec_endS rfl rfl rfl rfl KR.out ⟨_, rfl, (HO.out.put8 hr4 _ _ _ _ _ _ _ _).wide LW.out (by rw [put8_size]; exact Nat.le_refl _), put8_below B9.out (Nat.le_succ _)⟩
  · have XV1 := Lib.hid (XN.out q)
    rw [bB_no q]
    clear q XY XN CC FI
    obtain ⟨k0, k1, k2, k3, k4, k5, k6, k7⟩ := vec8 KA.out
    obtain ⟨z0, z1, z2, z3, z4, z5, z6, z7⟩ := vec8 KR.out
    obtain ⟨f0, f1, f2, f3, f4, f5, f6, f7⟩ := free8 KR.out
    go_wp2
    rw [XV1.out.1, XV1.out.2]
    exact vec_endS rfl rfl rfl rfl KR.out (zeroS _ w _ (put8_below B2.out (Nat.le_succ _)))
set_option maxHeartbeats 8000000 in
theorem specDropLevels (d : Nat) (v : Vec) (val : Value) (lo hi : Nat) (w : World) (hv : VecAt lo hi w d v val) (hhi : hi ≤ w.heap.size) (hsm : Small d v) :
    Calls Tryz.prog 16 #[val] w (ResVS 1 (dlV v) (dlS v) w) := by
  have C1 := Lib.hid (fun (w1 : World) (hb : Below w.heap.size w w1) => specIsFactor d v val lo hi w1 (hv.below hb hhi) (Nat.le_trans hhi hb.size) hsm)
  have CM := Lib.hid (fun (h : FacV v) (lv : List ByteArray) (W : World) (la : Option Addr) (lc : Nat) (hb : Below w.heap.size w W) (hT : TextsAt 0 W.heap.size W la lv) (hl : lv.length ≤ 20 ∧ ∀ s ∈ lv, s.size ≤ 60) => (by
    obtain ⟨kk, items, parts, names, cls, levels, code, env⟩ := v
    exact specSet d kk items parts names cls levels code env val la lc lv 0 W.heap.size W ((hv.below hb hhi).wide (Nat.zero_le _) (Nat.le_trans hhi hb.size)) hT (Nat.le_refl _) hsm (by omega) (fun s hs => by have := hl.2 s hs; omega) (atmS_iff.2 ⟨h.1, by show kk ≤ 3; rw [fac_two h]; decide⟩) : Calls Tryz.prog 21 #[val, .slice la lv.length lc] W (ResVS 1 (mfV v lv) (mfS v lv) W)))
  obtain ⟨VV, hVV⟩ : ∃ V, v = V := ⟨_, rfl⟩
  rw [hVV] at C1 ⊢
  obtain ⟨kk, items, parts, names, cls, levels, code, env⟩ := v
  have hv0 := hv
  obtain ⟨d', ai, ci, ap, cp, an, cn, ac, cc, al, cl, ed, rfl, hI, hN, hC, hL, hP⟩ := vecAt_open hv
  have XD := Lib.hid (show dlL VV = occT levels (pickL true items) levels.length from by rw [← hVV]; rfl)
  have XY := Lib.hid (fun (h : FacV VV) => dl_yes h)
  have XN := Lib.hid (fun (h : ¬ FacV VV) => dl_not h)
  have XS := Lib.hid (fun (h : FacV VV) => dlL_small h)
  have FI := Lib.hid (fun (h : FacV VV) => (by rw [← hVV] at h; exact ⟨fac_its h, h.2.1⟩ : ((∀ i, i < items.length → ItOk 2 (items.getD i noI) ∧ LevOk levels.length (items.getD i noI)) ∧ levels.length ≤ 20 ∧ items.length ≤ 40 ∧ (∀ i, i < levels.length → (levels.getD i ⟨#[]⟩).size ≤ 60)) ∧ ¬ levels.length = 0))
  have AI := Lib.hid (fun (k : Nat) (W : World) (hk : k < levels.length) (hb : Below w.heap.size w W) => (hL.below hb hhi) k (levels.getD k ⟨#[]⟩) (by rw [List.getD_eq_getElem?_getD, List.getElem?_eq_getElem hk]; rfl))
  have CF0 := Lib.hid (fun (x : It) (W : World) (hb : Below w.heap.size w W) (hn : items.length ≤ 40) => specFirst items x ai ci lo hi W (hI.below hb hhi) (Nat.le_trans hhi hb.size) (by omega))
  have OF0 := Lib.hid (fun (h : FacV VV) (k : Nat) (r : Int) (hf : FirstIs items ⟨(k : Int) + 1, 1, ⟨#[]⟩⟩ r) => occ_first (FI.out h).1.1 (FI.out h).2 hf)
  rw [hVV] at CM
  obtain ⟨X, hX⟩ : ∃ X, pickL true items = X := ⟨_, rfl⟩
  obtain ⟨RV, hRV⟩ : ∃ y, dlV VV = y := ⟨_, rfl⟩
  obtain ⟨RS, hRS⟩ : ∃ y, dlS VV = y := ⟨_, rfl⟩
  obtain ⟨OT, hOT⟩ : ∃ f : Nat → List ByteArray, occT levels X = f := ⟨_, rfl⟩
  have O0 := Lib.hid (show OT 0 = [] by rw [← hOT]; rfl)
  have ON := Lib.hid (fun (k : Nat) (h : cntX X X.length k = 0) => (by rw [← hOT]; exact occ_no h : OT (k + 1) = OT k))
  have OY := Lib.hid (fun (k : Nat) (h : ¬ cntX X X.length k = 0) => (by rw [← hOT]; exact occ_yes h : OT (k + 1) = OT k ++ [levels.getD k ⟨#[]⟩]))
  have OL := Lib.hid (fun (k : Nat) => (by rw [← hOT]; exact occ_len _ _ k : (OT k).length ≤ k))
  rw [hX, hOT] at XD
  rw [hX] at OF0
  rw [hRV, hRS] at XY XN ⊢
  have NL := Lib.hid (fun W n => specNum2 n W)
  obtain ⟨nl, hnl⟩ : ∃ nl, levels.length = nl := ⟨_, rfl⟩
  rw [hnl] at CM XD FI AI C1 ⊢
  clear hv hv0 hI hN hC hL hP hsm hVV hX hRV hRS ed hnl hOT
  go_enter Tryz.func16, Tryz.ntmps16
  go_wp2_with fail
  obtain ⟨w1, hw1⟩ : ∃ W, (w.alloc (.cells #[.int .i64 kk, .slice ai items.length ci, .slice ap parts.length cp, .slice an names.length cn, .slice ac cls.length cc, .slice al nl cl, .int .i64 code, .int .i64 env] 32)).alloc (.cells #[.int .i64 0, .slice none 0 0, .slice none 0 0, .slice none 0 0, .slice none 0 0, .slice none 0 0, .int .i64 0, .int .i64 0] 32) = W := ⟨_, rfl⟩
  have hs1 : (w.alloc (.cells #[.int .i64 kk, .slice ai items.length ci, .slice ap parts.length cp, .slice an names.length cn, .slice ac cls.length cc, .slice al nl cl, .int .i64 code, .int .i64 env] 32)).heap.size = w.heap.size + 1 := by simp
  have B1 := Lib.hid (show Below w.heap.size w w1 from hw1 ▸ below2 w _ _)
  have KA := Lib.hid (show w1.heap[w.heap.size]? = some (.cells #[.int .i64 kk, .slice ai items.length ci, .slice ap parts.length cp, .slice an names.length cn, .slice ac cls.length cc, .slice al nl cl, .int .i64 code, .int .i64 env] 32 (0, 0)) from hw1 ▸ blk_old (blk_new w _ rfl))
  have KR := Lib.hid (show w1.heap[w.heap.size + 1]? = some (.cells #[.int .i64 0, .slice none 0 0, .slice none 0 0, .slice none 0 0, .slice none 0 0, .slice none 0 0, .int .i64 0, .int .i64 0] 32 (0, 0)) from hw1 ▸ blk_new _ _ hs1.symm)
  rw [hw1]
  clear hw1 hs1
  with_reducible refine (C1.out _ B1.out).mono ?_
  rintro e w2 ⟨rfl, b⟩
  have B2 := Lib.hid (below_then B1.out b)
  have KA := Lib.hid (blk_below b KA.out)
  have KR := Lib.hid (blk_below b KR.out)
  clear b C1
  by_cases q : FacV VV
  · have XV1 := Lib.hid (XY.out q)
    have XS := Lib.hid (XS.out q)
    have CM := Lib.hid (CM.out q)
    have OF0 := Lib.hid (OF0.out q)
    obtain ⟨⟨_, ll, li, _⟩, _⟩ := FI.out q
    have CF0 := Lib.hid (fun x W hb => CF0.out x W hb li)
    rw [XD.out] at XV1 XS
    rw [bB_yes q]
    clear q XY XN FI XD
    obtain ⟨k0, k1, k2, k3, k4, k5, k6, k7⟩ := vec8 KA.out
    go_wp2
    clear k0 k1 k2 k3 k4 k5 k6 k7
    obtain ⟨w3, hw3⟩ : ∃ W, w2.alloc (.cells #[] 9) = W := ⟨_, rfl⟩
    have B3 := Lib.hid (show Below w.heap.size w w3 from hw3 ▸ B2.out.alloc B2.out.size _)
    have ST := Lib.hid (show TxZ w2 w3 [] (.slice (some ⟨w2.heap.size, 0, none⟩) 0 0) from hw3 ▸ ⟨⟨rfl, .inr ⟨w2.heap.size, 0, #[], rfl, Nat.le_refl _, blk_new w2 _ rfl, Nat.le_refl _, Nat.zero_le _, rfl, rfl⟩⟩, below1 w2 _⟩)
    rw [hw3]
    clear hw3
    go_loopw [4, 5] (fun v i wr => ∃ (k : Nat) (T : List ByteArray), k ≤ nl ∧ i = .int .i64 k ∧ T = OT k ∧ TxZ w2 wr T v) (fun _ i _ => nl - (intOf i).toNat)
    case atStart => exact ⟨0, [], Nat.zero_le _, rfl, O0.out.symm, ST.out⟩
    case round =>
      obtain ⟨k, T, hk, rfl, hT, htz⟩ := hrel
      have TZ := Lib.hid htz
      have HT := Lib.hid hT
      clear htz hT
      have BWR := Lib.hid (below_then B2.out TZ.out.below)
      have KAr := Lib.hid (blk_below TZ.out.below KA.out)
      obtain ⟨k0, k1, k2, k3, k4, k5, k6, k7⟩ := vec8 KAr.out
      by_cases hlt : k < nl
      · have OF := Lib.hid (OF0.out k)
        have ONk := Lib.hid (ON.out k)
        have OYk := Lib.hid (OY.out k)
        have LN := Lib.hid (show T.length ≤ 1048576 by have := OL.out k; rw [HT.out]; omega)
        have CL2 := Lib.hid (fun (W : World) (_ : Below wr.heap.size wr W) => NL.out W ((k : Int) + 1))
        have CF := Lib.hid (fun (W : World) (hb : Below wr.heap.size wr W) => (by exact CF0.out ⟨(k : Int) + 1, 1, ⟨#[]⟩⟩ W (below_then BWR.out hb) : Calls Tryz.prog 38 #[.slice ai items.length ci, .agg #[.int .i64 ((k : Int) + 1), .int .i64 1, .string ⟨#[]⟩]] W fun e w' => ∃ r, FirstIs items ⟨(k : Int) + 1, 1, ⟨#[]⟩⟩ r ∧ e = .returned (.int .i64 r) ∧ Below W.heap.size W w'))
        have WQ := Lib.hid (show IntKind.i64.wrap ((k : Int) + 1) = (k : Int) + 1 from wrap64_id (by omega) (by omega))
        obtain ⟨m, hm⟩ : ∃ m, cntX X X.length k = m := ⟨_, rfl⟩
        rw [hm] at OF ONk OYk
        obtain ⟨s, hs⟩ : ∃ s, levels.getD k ⟨#[]⟩ = s := ⟨_, rfl⟩
        have HS := Lib.hid hs
        rw [hs] at OYk
        clear hm hs
        go_upto_region 7 with (fail)
        clear k0 k1 k2 k3 k4 k5 k6 k7
        have H := Lib.hid (show HeldC wr wr ([(w.heap.size, 32, #[.int .i64 kk, .slice ai items.length ci, .slice ap parts.length cp, .slice an names.length cn, .slice ac cls.length cc, .slice al nl cl, .int .i64 code, .int .i64 env])]) from heldC_one (Below.refl _ _) KAr.out)
        by_cases h0 : m = 0
        · have NX := Lib.hid (show T = OT (k + 1) by rw [ONk.out h0]; exact HT.out)
          refine run_region (ops := (opsOf Tryz.f16 7)) (S := fun w' => HeldC wr w' ([(w.heap.size, 32, #[.int .i64 kk, .slice ai items.length ci, .slice ap parts.length cp, .slice an names.length cn, .slice ac cls.length cc, .slice al nl cl, .int .i64 code, .int .i64 env])])) [(0, true), (1, true), (2, true), (3, true), (4, false), (5, false), (6, true)] (by kernel_rfl) (by kernel_rfl) (by kernel_rfl) (by kernel_rfl) (by kernel_rfl) (fun _ _ _ _ _ h => h) (heldC_drew H.out) ?_
          have H := Lib.hid (heldC_drew H.out)
          have TZ := Lib.hid (TZ.out.keep (below_drew' (Below.refl _ _)))
          refine runC_partV (b := w.heap.size) (by kernel_rfl) (show opAt (opsOf Tryz.f16 7) 0 = some (some 20, .fieldAddr 32 (.tmp 1) 1, none) from by kernel_rfl) (by kernel_rfl) (by kernel_rfl) (by kernel_rfl) ?_
          refine runC_cell (b := w.heap.size) (j := 1) (v := .slice ai items.length ci) load_its (show opAt (opsOf Tryz.f16 7) 1 = some (some 21, .load 29 (.tmp 20), none) from by kernel_rfl) (by kernel_rfl) (by kernel_rfl) (by kernel_rfl) (List.Mem.head _) rfl ?_
          refine run_mov (v := .int .i64 ((k : Int))) (show opAt (opsOf Tryz.f16 7) 2 = some (some 22, .move (.tmp 5), none) from by kernel_rfl) (by kernel_rfl) (by kernel_rfl) (by kernel_rfl) ?_
          refine run_add (k := .i64) (p := (k : Int)) (q := 1) (z := ((k : Int) + 1)) (show opAt (opsOf Tryz.f16 7) 3 = some (some 23, .binOp .add 3 (.tmp 22) (.const (.int .i64 1)) 3, none) from by kernel_rfl) (by kernel_rfl) (by kernel_rfl) (by kernel_rfl) (by kernel_rfl) WQ.out ?_
          refine run_call (args := [.int .i64 (((k : Int) + 1))]) (show opAt (opsOf Tryz.f16 7) 4 = some (some 24, .call { callee := .value (.func 39), args := [(.tmp 23)].toArray, argTypes := [3].toArray }, none) from by kernel_rfl) (by kernel_rfl) (by kernel_rfl) (by kernel_rfl) (by kernel_rfl) ?_
          refine (CL2.out _ H.out.1).mono ?_
          rintro en rw1 ⟨rfl, hb⟩
          refine ⟨_, rfl, heldC_call H.out hb, ?_⟩
          have H := Lib.hid (heldC_call H.out hb)
          have TZ := Lib.hid (TZ.out.keep hb)
          clear hb
          refine run_call (args := [.slice ai items.length ci, .agg #[.int .i64 ((k : Int) + 1), .int .i64 1, .string ⟨#[]⟩]]) (show opAt (opsOf Tryz.f16 7) 5 = some (some 25, .call { callee := .value (.func 38), args := [(.tmp 21), (.tmp 24)].toArray, argTypes := [29, 62].toArray }, none) from by kernel_rfl) (by kernel_rfl) (by kernel_rfl) (by kernel_rfl) (by kernel_rfl) ?_
          refine (CF.out _ H.out.1).mono ?_
          rintro en rw2 ⟨r, hf, rfl, hb⟩
          have hr : ¬ r ≥ 0 := by have q := OF.out r hf; omega
          clear hf
          refine ⟨_, rfl, heldC_call H.out hb, ?_⟩
          have H := Lib.hid (heldC_call H.out hb)
          have TZ := Lib.hid (TZ.out.keep hb)
          clear hb
          refine run_cmp (k := .i64) (p := r) (q := 0) (b := false) (show opAt (opsOf Tryz.f16 7) 6 = some (some 26, .binOp .geq 3 (.tmp 25) (.const (.int .i64 0)) 3, none) from by kernel_rfl) (by kernel_rfl) (by kernel_rfl) (by kernel_rfl) (by kernel_rfl) (congrArg some (decide_eq_false hr)) ?_
          refine run_done ?_
          simp only [putAll, Act.put, List.setIfInBounds_toArray, List.set_cons_zero, List.set_cons_succ]
          clear ONk OYk HT h0 H OF CF CL2 WQ
          go_wp2
          go_roundw
          case rel => exact ⟨k + 1, T, by omega, by go_num, NX.out, TZ.out⟩
          case measure => simp [intOf]; omega
        · have NX := Lib.hid (show T ++ [s] = OT (k + 1) by rw [OYk.out h0, HT.out])
          refine run_region (ops := (opsOf Tryz.f16 7)) (S := fun w' => HeldC wr w' ([(w.heap.size, 32, #[.int .i64 kk, .slice ai items.length ci, .slice ap parts.length cp, .slice an names.length cn, .slice ac cls.length cc, .slice al nl cl, .int .i64 code, .int .i64 env])])) [(0, true), (1, true), (2, true), (3, true), (4, false), (5, false), (6, true)] (by kernel_rfl) (by kernel_rfl) (by kernel_rfl) (by kernel_rfl) (by kernel_rfl) (fun _ _ _ _ _ h => h) (heldC_drew H.out) ?_
          have H := Lib.hid (heldC_drew H.out)
          have TZ := Lib.hid (TZ.out.keep (below_drew' (Below.refl _ _)))
          refine runC_partV (b := w.heap.size) (by kernel_rfl) (show opAt (opsOf Tryz.f16 7) 0 = some (some 20, .fieldAddr 32 (.tmp 1) 1, none) from by kernel_rfl) (by kernel_rfl) (by kernel_rfl) (by kernel_rfl) ?_
          refine runC_cell (b := w.heap.size) (j := 1) (v := .slice ai items.length ci) load_its (show opAt (opsOf Tryz.f16 7) 1 = some (some 21, .load 29 (.tmp 20), none) from by kernel_rfl) (by kernel_rfl) (by kernel_rfl) (by kernel_rfl) (List.Mem.head _) rfl ?_
          refine run_mov (v := .int .i64 ((k : Int))) (show opAt (opsOf Tryz.f16 7) 2 = some (some 22, .move (.tmp 5), none) from by kernel_rfl) (by kernel_rfl) (by kernel_rfl) (by kernel_rfl) ?_
          refine run_add (k := .i64) (p := (k : Int)) (q := 1) (z := ((k : Int) + 1)) (show opAt (opsOf Tryz.f16 7) 3 = some (some 23, .binOp .add 3 (.tmp 22) (.const (.int .i64 1)) 3, none) from by kernel_rfl) (by kernel_rfl) (by kernel_rfl) (by kernel_rfl) (by kernel_rfl) WQ.out ?_
          refine run_call (args := [.int .i64 (((k : Int) + 1))]) (show opAt (opsOf Tryz.f16 7) 4 = some (some 24, .call { callee := .value (.func 39), args := [(.tmp 23)].toArray, argTypes := [3].toArray }, none) from by kernel_rfl) (by kernel_rfl) (by kernel_rfl) (by kernel_rfl) (by kernel_rfl) ?_
          refine (CL2.out _ H.out.1).mono ?_
          rintro en rw1 ⟨rfl, hb⟩
          refine ⟨_, rfl, heldC_call H.out hb, ?_⟩
          have H := Lib.hid (heldC_call H.out hb)
          have TZ := Lib.hid (TZ.out.keep hb)
          clear hb
          refine run_call (args := [.slice ai items.length ci, .agg #[.int .i64 ((k : Int) + 1), .int .i64 1, .string ⟨#[]⟩]]) (show opAt (opsOf Tryz.f16 7) 5 = some (some 25, .call { callee := .value (.func 38), args := [(.tmp 21), (.tmp 24)].toArray, argTypes := [29, 62].toArray }, none) from by kernel_rfl) (by kernel_rfl) (by kernel_rfl) (by kernel_rfl) (by kernel_rfl) ?_
          refine (CF.out _ H.out.1).mono ?_
          rintro en rw2 ⟨r, hf, rfl, hb⟩
          have hr : r ≥ 0 := by have q := OF.out r hf; omega
          clear hf
          refine ⟨_, rfl, heldC_call H.out hb, ?_⟩
          have H := Lib.hid (heldC_call H.out hb)
          have TZ := Lib.hid (TZ.out.keep hb)
          clear hb
          refine run_cmp (k := .i64) (p := r) (q := 0) (b := true) (show opAt (opsOf Tryz.f16 7) 6 = some (some 26, .binOp .geq 3 (.tmp 25) (.const (.int .i64 0)) 3, none) from by kernel_rfl) (by kernel_rfl) (by kernel_rfl) (by kernel_rfl) (by kernel_rfl) (congrArg some (decide_eq_true hr)) ?_
          refine run_done ?_
          simp only [putAll, Act.put, List.setIfInBounds_toArray, List.set_cons_zero, List.set_cons_succ]
          have KA2 := Lib.hid (heldC_at H.out (List.Mem.head _))
          obtain ⟨b2, off2, rfl, _, hb2, hs'⟩ := AI.out k rw2 hlt (below_then BWR.out H.out.1)
          rw [HS.out] at hs'
          have hb2w : b2 < rw2.heap.size := Nat.lt_of_lt_of_le hb2 (Nat.le_trans hhi (Nat.le_trans BWR.out.size H.out.1.size))
          clear ONk OYk HT h0 H OF CF CL2 WQ hr
          obtain ⟨k0, k1, k2, k3, k4, k5, k6, k7⟩ := vec8 KA2.out
          go_wp2_with (at_builtin; go_loud (refine wpList_appTx rfl _ _ rfl s T _ _ rfl rfl (TZ.out.keep (below1 _ _)) (blk_new _ _ rfl) LN.out ?_))
          intro v' w4 hir
          have IN := Lib.hid hir
          clear hir
          go_wp2
          go_roundw
          case rel => exact ⟨k + 1, _, by omega, by go_num, NX.out, IN.out⟩
          case measure => simp [intOf]; omega
      · obtain rfl : k = nl := by omega
        obtain ⟨sl, ql, Fl, rfl, hot, hnd, hrg, hqc⟩ := txs_of_row TZ.out.row
        have HX := Lib.hid (hot.texts (hi := wr.heap.size) (fun b hb => (hrg b hb).2))
        have KR := Lib.hid (blk_below TZ.out.below KR.out)
        have hr4 : w.heap.size + 1 < wr.heap.size := (Array.getElem?_eq_some_iff.1 KR.out).1
        have CM := Lib.hid (CM.out T wr sl ql BWR.out HX.out (by rw [HT.out]; exact XS.out))
        rw [HT.out] at CM
        rw [← XV1.out.1, ← XV1.out.2] at CM
        have ET := HT.out
        subst ET
        clear hot hnd hrg hqc XV1 XS HX TZ AI ON OY OL O0 ST
        go_wp2_with fail
        with_reducible refine (CM.out).mono ?_
        rintro e w9 ⟨y, rfl, ho, b⟩
        have B9 := Lib.hid (below_then BWR.out b)
        have KR := Lib.hid (blk_below b KR.out)
        obtain ⟨yk, ya1, yn1, ym1, ya2, yn2, ym2, ya3, yn3, ym3, ya4, yn4, ym4, ya5, yn5, ym5, yc, ye, rfl⟩ := (ho.vat (Nat.le_refl _)).agg
        have HO := Lib.hid ho
        have LW := Lib.hid BWR.out.size
        clear ho b
        clear k0 k1 k2 k3 k4 k5 k6 k7
        obtain ⟨w10, hw10⟩ : ∃ W, w9.alloc (.cells #[.int .i64 yk, .slice ya1 yn1 ym1, .slice ya2 yn2 ym2, .slice ya3 yn3 ym3, .slice ya4 yn4 ym4, .slice ya5 yn5 ym5, .int .i64 yc, .int .i64 ye] 32) = W := ⟨_, rfl⟩
        have KR := Lib.hid (show w10.heap[w.heap.size + 1]? = some (.cells #[.int .i64 0, .slice none 0 0, .slice none 0 0, .slice none 0 0, .slice none 0 0, .slice none 0 0, .int .i64 0, .int .i64 0] 32 (0, 0)) from hw10 ▸ blk_old KR.out)
        have B10 := Lib.hid (show Below w.heap.size w w10 from hw10 ▸ B9.out.alloc B9.out.size _)
        have HO := Lib.hid (show Own 1 RV (.agg #[.int .i64 yk, .slice ya1 yn1 ym1, .slice ya2 yn2 ym2, .slice ya3 yn3 ym3, .slice ya4 yn4 ym4, .slice ya5 yn5 ym5, .int .i64 yc, .int .i64 ye]) wr.heap.size w10.heap.size w10 from hw10 ▸ (HO.out.below (below1 w9 _) (Nat.le_refl _)).wide (Nat.le_refl _) (below1 w9 _).size)
        have EW := Lib.hid hw10
        have KY := Lib.hid (show w10.heap[w9.heap.size]? = some (.cells #[.int .i64 yk, .slice ya1 yn1 ym1, .slice ya2 yn2 ym2, .slice ya3 yn3 ym3, .slice ya4 yn4 ym4, .slice ya5 yn5 ym5, .int .i64 yc, .int .i64 ye] 32 (0, 0)) from hw10 ▸ blk_new w9 _ rfl)
        clear hw10
        go_upto_region 10 with (fail)
        rw [EW.out]
        obtain ⟨g0, g1, g2, g3, g4, g5, g6, g7⟩ := vec8 KY.out
        obtain ⟨z0, z1, z2, z3, z4, z5, z6, z7⟩ := vec8 KR.out
        obtain ⟨f0, f1, f2, f3, f4, f5, f6, f7⟩ := free8 KR.out
        go_wp2
        exact vec_endS rfl rfl rfl rfl KR.out ⟨_, rfl, (HO.out.put8 hr4 _ _ _ _ _ _ _ _).wide LW.out (by rw [put8_size]; exact Nat.le_refl _), put8_below B10.out (Nat.le_succ _)⟩
  · have XV1 := Lib.hid (XN.out q)
    rw [bB_no q]
    clear q XY XN FI
    obtain ⟨k0, k1, k2, k3, k4, k5, k6, k7⟩ := vec8 KA.out
    obtain ⟨z0, z1, z2, z3, z4, z5, z6, z7⟩ := vec8 KR.out
    obtain ⟨f0, f1, f2, f3, f4, f5, f6, f7⟩ := free8 KR.out
    go_wp2
    rw [XV1.out.1, XV1.out.2]
    exact vec_endS rfl rfl rfl rfl KR.out (zeroS _ w _ (put8_below B2.out (Nat.le_succ _)))
end Go.Proofs.YtddebgmjolojeaaGreatDoor
