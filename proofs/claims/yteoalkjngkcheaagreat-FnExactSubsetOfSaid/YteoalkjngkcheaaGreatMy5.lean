/- ResolvePositions of the reference: texts, NULL. -/
import Derived.Test.YteoalkjngkcheaaGreatRows
import Derived.Test.YteoalkjngkcheaaGreatMy4
import Derived.Test.YteoalkjngkcheaaGreatMy2
import Derived.Test.YteoalkjngkcheaaGreatMy3
import Derived.Test.YteoalkjngkcheaaGreatVec
import Derived.Test.YteoalkjngkcheaaGreatNumIn
import Derived.WalkKit
import Derived.OwnWalk
import Derived.Deep.DeepCutAuto
import Derived.Lib.Hide
import Derived.Maps.AppendAt
import Derived.IntWalk
import Derived.Deep.Slices
import Derived.Deep.Fields
import Derived.ChangeSame
namespace Go.Proofs.YteoalkjngkcheaaGreat
open Go.RowKit
set_option maxRecDepth 100000
set_option linter.unusedVariables false

theorem TxZ.wideT {w w2 w4 : World} {l : List ByteArray} {v : Value} (h : TxZ w2 w4 l v) (hb : Below w.heap.size w w2) : TxZ w w4 l v := by
 obtain ⟨⟨h1, h2⟩, h3⟩ := h
 refine ⟨⟨h1, h2.imp id ?_⟩, below_then hb h3⟩
 rintro ⟨g, cap, cur, e, hB, r⟩
 exact ⟨g, cap, cur, e, Nat.le_trans hb.size hB, r⟩
def lenS : Value → Nat
 | .slice _ n _ => n
 | _ => 0
theorem rk_text {kk : Int} {items : List It} {names : List ByteArray} {n : Nat} (h : kk = 3 ∨ (kk = 0 ∧ items.length = 0)) : rkZ kk items names n = teZ (padL names n) items ∧ rkS kk items = teS items := by
 rcases h with rfl | ⟨rfl, h⟩
 ·exact rk_txt
 ·have e := List.eq_nil_of_length_eq_zero h
  subst e
  obtain ⟨e1, e2⟩ := te_ok (K := padL names n) (l := []) (fun i hi => absurd hi (Nat.not_lt_zero _))
  rw [e1, e2]
  exact rk_null
set_option maxHeartbeats 16000000 in
theorem specResolveT (d : Nat) (v : Vec) (val : Value) (n : Int) (nms : List ByteArray) (na : Option Addr) (nc lo hi lo2 hi2 : Nat) (w : World) (hv : VecAt lo hi w d v val) (hhi : hi ≤ w.heap.size) (hsm : Small d v) (hT : TextsAt lo2 hi2 w na nms) (hh2 : hi2 ≤ w.heap.size) (ln2 : nms.length ≤ 1048576) (q : ValidV v) (h2 : NmOk n nms) (hk3 : kindV v = 3 ∨ kindV v = 0) :
  Calls Tryz.prog 16 #[.int .i64 n, .slice na nms.length nc, val] w (ResZ (rsZ n nms v) (rsS n nms v) w) := by
 have C1 := hd9 (fun (w1 : World) (hb : Below w.heap.size w w1) => specIsVector d v val lo hi w1 (hv.below hb hhi) (Nat.le_trans hhi hb.size) hsm)
 obtain ⟨VV, hVV⟩ : ∃ V, v = V := ⟨_, rfl⟩
 rw [hVV] at C1 ⊢
 obtain ⟨kk, items, parts, names, cls, levels, code, env⟩ := v
 obtain ⟨d', ai, ci, ap, cp, an, cn, ac, cc, al, cl, ed, rfl, hI, hN, hC, hL, hP⟩ := vecAt_open hv
 subst ed
 have XK : kindV VV = kk := by rw [← hVV]; rfl
 have XY := hd9 (fun (h : ValidV VV) (h2 : NmOk n nms) => (by rw [← hVV] at h ⊢; exact rs_yes h h2 : rsZ n nms VV = rkZ kk items nms n.toNat ∧ rsS n nms VV = rkS kk items))
 have XF := hd9 (fun (h : ValidV VV) => (by rw [← hVV] at h; exact h.1.flat : FlatOk kk items parts.length names cls levels code env))
 have HI := hd9 (fun (W : World) (hb : Below w.heap.size w W) => hI.below hb hhi)
 have HT := hd9 (fun (W : World) (hb : Below w.heap.size w W) => hT.below hb hh2)
 clear hv hI hN hC hL hP hsm hT
 obtain ⟨wA, hwA⟩ : ∃ W, w.alloc (.cells #[.int .i64 kk, .slice ai items.length ci, .slice ap parts.length cp, .slice an names.length cn, .slice ac cls.length cc, .slice al levels.length cl, .int .i64 code, .int .i64 env] 31) = W := ⟨_, rfl⟩
 have BA := hd9 (show Below w.heap.size w wA from hwA ▸ below1 w _)
 have KA := hd9 (show wA.heap[w.heap.size]? = some (.cells #[.int .i64 kk, .slice ai items.length ci, .slice ap parts.length cp, .slice an names.length cn, .slice ac cls.length cc, .slice al levels.length cl, .int .i64 code, .int .i64 env] 31 (0, 0)) from hwA ▸ blk_new w _ rfl)
 have hsA : wA.heap.size = w.heap.size + 1 := by rw [← hwA]; simp
 have HSA := hd9 (show w.heap.size < wA.heap.size by omega)
 obtain ⟨w1, hw1⟩ : ∃ W, wA.alloc (.cells #[] 3) = W := ⟨_, rfl⟩
 have ST := hd9 (show IntZ wA w1 [] (.slice (some ⟨w.heap.size + 1, 0, none⟩) 0 0) from hsA ▸ hw1 ▸ IntZ.nil0 wA wA (Below.refl _ _))
 have EWA := hd9 hwA
 have EW1 := hd9 hw1
 clear hwA hw1 hsA
 rw [hVV] at q hk3
 rw [XK] at hk3
 go_enter Tryz.func16, Tryz.ntmps16
 go_wp2_with fail
 rw [EWA.out, EW1.out]
 clear EWA EW1
 with_reducible refine (C1.out _ (below_then BA.out ST.out.below)).mono ?_
 rintro e w2 ⟨rfl, b⟩
 have ST := hd9 (ST.out.keep b)
 clear b C1
 rw [bB_yes q]
 have hF := XF.out q
 have hk := hF.h_kind
 have hlen := hF.h_len
 have hit := hF.h_items
 have hnull := hF.h_null
 obtain ⟨x1, x2⟩ := XY.out q h2
 have X1 := hd9 x1
 have X2 := hd9 x2
 obtain ⟨n0, n40, hnm⟩ := h2
 obtain ⟨N, rfl⟩ : ∃ N : Nat, n = N := ⟨n.toNat, by omega⟩
 have hNN : (N : Int).toNat = N := rfl
 rw [hNN] at X1
 have hl40 : ¬ kk = 5 → items.length ≤ 40 := fun h => by unfold lenV at hlen; rw [if_neg h] at hlen; omega
 have HIT := hd9 hit
 have CL := hd9 (fun W => by have h := l1In_any (N : Int) 0 40 W; rw [decide_eq_true ⟨n0, n40⟩] at h; exact h)
 have hnm' : nms.length = 0 ∨ nms.length = N := by omega
 have hnp : (((nms.length : Nat) : Int) != 0) = false ∨ ((((nms.length : Nat) : Int) != 0) = true ∧ (((nms.length : Nat) : Int) != (N : Int)) = false) := by
  rcases hnm' with e | e
  ·exact .inl (by rw [e]; rfl)
  ·by_cases e0 : nms.length = 0
   ·exact .inl (by rw [e0]; rfl)
   ·exact .inr ⟨bne_iff_ne.2 (by omega), by rw [e]; simp⟩
 clear x1 x2 hF XF XY hlen hit hNN
 have KA2 := hd9 (show w2.heap[w.heap.size]? = some (.cells #[.int .i64 kk, .slice ai items.length ci, .slice ap parts.length cp, .slice an names.length cn, .slice ac cls.length cc, .slice al levels.length cl, .int .i64 code, .int .i64 env] 31 (0, 0)) from (ST.out.below.block _ HSA.out).trans KA.out)
 obtain ⟨k0, k1, k2, k3, k4, k5, k6, k7⟩ := vec8 KA2.out
 have W2N := hd9 (show Below w.heap.size w w2 from below_then BA.out ST.out.below)
 clear q hVV XK
 have hkt : kk = 3 ∨ (kk = 0 ∧ items.length = 0) := by
  rcases hk3 with h | h
  ·exact .inl h
  ·exact .inr ⟨h, by have := (hnull h).1; omega⟩
 have RK := rk_text (names := nms) (n := N) hkt
 have X1 := hd9 (X1.out.trans RK.1)
 have X2 := hd9 (X2.out.trans RK.2)
 have HIT3 := hd9 (show ∀ i, i < items.length → ItOk 3 (items.getD i noI) from fun i hi => by
  rcases hkt with h | ⟨_, h⟩
  ·have := (HIT.out i hi).1; rw [h] at this; exact this
  ·omega)
 have L40 := hl40 (by omega)
 have hk4 : ¬ 4 ≤ kk := by omega
 have hk2b : (kk == 2) = false := beq_eq_false_iff_ne.2 (by omega)
 have hk1b : (kk == 1) = false := beq_eq_false_iff_ne.2 (by omega)
 have hnl : nms.length ≤ N := by omega
 have N40 : N ≤ 40 := by omega
 have PD := hd9 (show ∀ j, nms.length + j = N → nms ++ List.replicate j ⟨#[]⟩ = padL nms N from fun j hj => by unfold padL; rw [← hj, Nat.add_sub_cancel_left])
 have RJ := hd9 (show ∀ j, (nms ++ List.replicate j (⟨#[]⟩ : ByteArray)) ++ [⟨#[]⟩] = nms ++ List.replicate (j + 1) ⟨#[]⟩ from fun j => by rw [List.append_assoc, List.replicate_succ'])
 have RL := hd9 (show ∀ j, (nms ++ List.replicate j (⟨#[]⟩ : ByteArray)).length = nms.length + j from fun j => by rw [List.length_append, List.length_replicate])
 have AI := hd9 (fun (k : Nat) (W : World) (hk : k < items.length) (hb : Below w.heap.size w W) => (HI.out W hb).at_ hk)
 have KL := hd9 (fun k => (by have := txK_len (padL nms N) items k; rw [padL_len nms N hnl] at this; exact this : (txK (padL nms N) items k).length ≤ N + k))
 have PL := hd9 (txP_len (padL nms N) items)
 have PM := hd9 (fun k h => txP_miss (K := padL nms N) (l := items) (k := k) h)
 have PO := hd9 (fun k h0 h => txP_old (K := padL nms N) (l := items) (k := k) h0 h)
 have PN := hd9 (fun k h0 h => txP_new (K := padL nms N) (l := items) (k := k) h0 h)
 have KM := hd9 (fun k h => txK_miss (K := padL nms N) (l := items) (k := k) h)
 have KO := hd9 (fun k h => txK_old (K := padL nms N) (l := items) (k := k) h)
 have KN := hd9 (fun k h0 h => txK_new (K := padL nms N) (l := items) (k := k) h0 h)
 have TO := hd9 (fun h => te_ok (K := padL nms N) (l := items) h)
 have TB := hd9 (fun h => te_bad (K := padL nms N) (l := items) h)
 have K0 := hd9 (show txK (padL nms N) items 0 = padL nms N from rfl)
 have P0 := hd9 (show txP (padL nms N) items 0 = [] from rfl)
 have AT := hd9 (show AllT items ↔ ∀ i, i < items.length → OkT (items.getD i noI) from Iff.rfl)
 obtain ⟨K, hK⟩ : ∃ K : Nat → List ByteArray, txK (padL nms N) items = K := ⟨_, rfl⟩
 obtain ⟨Z, hZ⟩ : ∃ Z : Nat → List Int, txP (padL nms N) items = Z := ⟨_, rfl⟩
 rw [hK] at KL PO PN KM KO KN K0
 rw [hZ] at PL PM PO PN TO P0
 obtain ⟨PP, hPP⟩ : ∃ P, padL nms N = P := ⟨_, rfl⟩
 rw [hPP] at PD K0 TO TB X1
 obtain ⟨l, hl⟩ : ∃ l, items = l := ⟨_, rfl⟩
 rw [hl] at PO PN KM KO KN PM TO TB AT HIT3 AI L40 X1 X2 k1
 have KA := hd9 (hl ▸ KA.out)
 obtain ⟨m, hm⟩ : ∃ m, l.length = m := ⟨_, rfl⟩
 rw [hm] at AT HIT3 AI L40 TO k1
 have KA := hd9 (hm ▸ KA.out)
 obtain ⟨w3, hw3⟩ : ∃ W, w2.alloc (.cells #[] 9) = W := ⟨_, rfl⟩
 have B23 := hd9 (show Below w2.heap.size w2 w3 from hw3 ▸ below1 w2 _)
 have KS := hd9 (show w3.heap[w2.heap.size]? = some (.cells #[] 9 (0, 0)) from hw3 ▸ blk_new w2 _ rfl)
 have EW := hd9 hw3
 have HT3 := hd9 (HT.out w3 (below_then W2N.out B23.out))
 clear HIT hl40 HI HT hnm' RK hkt hnull hk hw3 hK hZ hPP hm KA2 hnm n0 n40 hk3
 rcases hnp with hnp | ⟨hnp, hnq⟩
 ·go_wp2_with fail
  refine (CL.out _).mono ?_
  rintro e wq ⟨rfl, rfl⟩
  go_wp2_with (at_builtin; go_loud (rw [EW.out]; refine wpList_copyTz (w0 := w2) rfl _ _ rfl _ rfl (.inr ⟨w2.heap.size, Nat.le_refl _, rfl, KS.out⟩) B23.out na nc nms lo2 hi2 rfl HT3.out ln2 ?_))
  intro v13 w4 htz
  have I4 := hd9 (show IntZ wA w4 (Z 0) (.slice (some ⟨w.heap.size + 1, 0, none⟩) 0 0) from P0.out ▸ ST.out.keep htz.below)
  have T4 := hd9 (show TxZ wA w4 (nms ++ List.replicate 0 ⟨#[]⟩) v13 from by rw [List.replicate_zero, List.append_nil]; exact htz.wideT ST.out.below)
  clear htz k0 k1 k2 k3 k4 k5 k6 k7 EW KS B23 HT3
  obtain ⟨nn, hnn⟩ : ∃ x, nms.length = x := ⟨_, rfl⟩
  rw [hnn] at hnl RL PD
  clear hnn
  go_wp2
  go_loopw [13] (fun v13 wr => ∃ j : Nat, nn + j ≤ N ∧ TxZ wA wr (nms ++ List.replicate j ⟨#[]⟩) v13 ∧ IntZ wA wr (Z 0) (.slice (some ⟨w.heap.size + 1, 0, none⟩) 0 0)) (fun v13 _ => N - lenS v13)
  case atStart => exact ⟨0, hnl, T4.out, I4.out⟩
  case round =>
   obtain ⟨j, hj, ht, hz⟩ := hrel
   have TZ := hd9 ht
   have IZ := hd9 hz
   clear ht hz
   obtain ⟨s3, n3, c3, rfl⟩ := TZ.out.form
   obtain rfl := TZ.out.slice
   have hjl := RL.out j
   have RJ1 := hd9 (RJ.out j)
   have PD1 := hd9 (PD.out j)
   obtain ⟨KJ, hKJ⟩ : ∃ X, nms ++ List.replicate j (⟨#[]⟩ : ByteArray) = X := ⟨_, rfl⟩
   rw [hKJ] at TZ hjl RJ1 PD1 ⊢
   clear hKJ
   by_cases hlt : KJ.length < N
   ·have LK := hd9 (show KJ.length ≤ 1048576 by omega)
    go_wp2_with (at_builtin; go_loud (refine wpList_appTx2 rfl _ _ rfl ⟨#[]⟩ KJ _ _ rfl rfl (TZ.out.keep (below1 _ _)) (blk_new _ _ rfl) LK.out (IZ.out.keep (below1 _ _)) ?_))
    intro v' w5 htx hir _
    obtain ⟨s4, n4, c4, rfl⟩ := htx.form
    obtain rfl := htx.slice
    have hl5 : (KJ ++ [(⟨#[]⟩ : ByteArray)]).length = KJ.length + 1 := by simp
    have IN := hd9 hir
    have TN := hd9 (show TxZ wA w5 (nms ++ List.replicate (j + 1) ⟨#[]⟩) _ from by rw [← RJ1.out]; exact htx)
    clear htx hir
    rw [hl5]
    rw [hl5] at TN
    go_wp2
    go_roundw
    case rel => exact ⟨j + 1, by omega, TN.out, IN.out⟩
    case measure => simp [lenS]; omega
   ·have hle : KJ.length = N := by omega
    have hnlt : ¬ ((N : Int) < (N : Int)) := by omega
    obtain rfl := PD1.out (by omega)
    have T5 := hd9 (show TxZ wA wr (K 0) (.slice s3 KJ.length c3) from by rw [K0.out]; exact TZ.out)
    have I5 := hd9 IZ.out
    rw [hle]
    rw [hle] at T5
    clear TZ IZ RJ RJ1 PD PD1 hjl RL hlt hle hj
    go_wp2
    go_loopw [8, 13, 14] (fun v8 v13 v14 wr => ∃ k : Nat, k ≤ m ∧ v14 = .int .i64 k ∧ TxZ wA wr (K k) v13 ∧ IntZ wA wr (Z k) v8 ∧ ∀ j, j < k → OkT (l.getD j noI)) (fun _ _ v14 _ => m - (intOf v14).toNat)
    case atStart => exact ⟨0, Nat.zero_le _, rfl, T5.out, I5.out, fun _ h => absurd h (Nat.not_lt_zero _)⟩
    case round =>
     obtain ⟨k, hk, rfl, ht, hz, hok⟩ := hrel
     have TZ := hd9 ht
     have IZ := hd9 hz
     have OK := hd9 hok
     clear ht hz hok
     have KAr := hd9 (show wr.heap[w.heap.size]? = some (.cells #[.int .i64 kk, .slice ai m ci, .slice ap parts.length cp, .slice an names.length cn, .slice ac cls.length cc, .slice al levels.length cl, .int .i64 code, .int .i64 env] 31 (0, 0)) from (IZ.out.below.block _ HSA.out).trans KA.out)
     by_cases hlt : k < m
     ·obtain ⟨ba, off, rfl, hbB, c0, c1, c2'⟩ := AI.out k wr hlt (below_then BA.out IZ.out.below)
      have c2 : wr.cell? ⟨ba, off + k * 3 + 2, none⟩ = some (.string (l.getD k noI).t) := c2'
      have IT := HIT3.out k hlt
      have LN := hd9 (show (Z k).length ≤ 1048576 by rw [PL.out k]; omega)
      have LK := hd9 (show (K k).length ≤ 1048576 by have := KL.out k; omega)
      have ATk := hd9 (show AllT l → OkT (l.getD k noI) from fun h => AT.out.1 h k hlt)
      have PM1 := hd9 (PM.out k)
      have PO1 := hd9 (PO.out k)
      have PN1 := hd9 (PN.out k)
      have KM1 := hd9 (KM.out k)
      have KO1 := hd9 (KO.out k)
      have KN1 := hd9 (KN.out k)
      have OKN := hd9 (show OkT (l.getD k noI) → ∀ j, j < k + 1 → OkT (l.getD j noI) from fun h j hj => by
       by_cases e : j = k
       ·subst e; exact h
       ·exact OK.out j (by omega))
      obtain ⟨x, hx⟩ : ∃ x, l.getD k noI = x := ⟨_, rfl⟩
      rw [hx] at c0 c1 c2 IT PM1 PO1 PN1 KM1 KO1 KN1 OKN ATk
      clear hx c2'
      have hcase : x = noI ∨ ∃ t : ByteArray, x = ⟨0, 1, t⟩ := by
       rcases IT with h | ⟨h, _⟩ | ⟨h, _⟩ | ⟨_, h1, h2, _⟩
       ·exact .inl h
       ·exact absurd h (by decide)
       ·exact absurd h (by decide)
       ·obtain ⟨xn, xd, xt⟩ := x
        have h1' : xn = 0 := h1
        have h2' : xd = 1 := h2
        subst h1' h2'
        exact .inr ⟨xt, rfl⟩
      obtain ⟨s8, n8, c8, rfl⟩ := TZ.out.form
      obtain rfl := TZ.out.slice
      rcases hcase with rfl | ⟨t, rfl⟩
      ·have NX := hd9 (PM1.out rfl)
       have NK := hd9 (KM1.out rfl)
       have ON := hd9 (OKN.out (.inl rfl))
       clear PM1 PO1 PN1 KM1 KO1 KN1 OKN ATk IT
       obtain ⟨wa, hwa⟩ : ∃ W, wr.alloc (.cells #[.int .i64 0, .int .i64 0, .string ⟨#[]⟩] 64) = W := ⟨_, rfl⟩
       have BX := hd9 (show Below wr.heap.size wr wa from hwa ▸ below1 wr _)
       have KB := hd9 (show wa.heap[wr.heap.size]? = some (.cells #[.int .i64 0, .int .i64 0, .string ⟨#[]⟩] 64 (0, 0)) from hwa ▸ blk_new wr _ rfl)
       have TZ := hd9 (TZ.out.keep BX.out)
       have IZ := hd9 (IZ.out.keep BX.out)
       have EW := hd9 hwa
       have c0' : wr.cell? ⟨ba, off + k * 3, none⟩ = some (.int .i64 0) := c0
       have c1' : wr.cell? ⟨ba, off + k * 3 + 1, none⟩ = some (.int .i64 0) := c1
       have c2' : wr.cell? ⟨ba, off + k * 3 + 2, none⟩ = some (.string ⟨#[]⟩) := c2
       clear hwa c0 c1 c2
       have CI := hd9 (specFindAt ⟨#[]⟩ s8 (K k).length c8 (fun i => (K k).getD i ⟨#[]⟩) wa.heap.size wa (texts_strs TZ.out.texts) (by have := LK.out; omega))
       obtain ⟨z, hz⟩ : ∃ z, findF (⟨#[]⟩ : ByteArray) (fun i => (K k).getD i ⟨#[]⟩) (K k).length 0 = z := ⟨_, rfl⟩
       rw [hz] at CI
       clear hz
       obtain ⟨k0, k1, k2, k3, k4, k5, k6, k7⟩ := vec8 KAr.out
       go_upto_region 28 with (fail)
       rw [EW.out]
       clear k0 k1 k2 k3 k4 k5 k6 k7
       have k0 := cellOf KB.out (i := 0) rfl
       have k1 := cellOf KB.out (i := 1) rfl
       have k2 := cellOf KB.out (i := 2) rfl
       go_wp2_with fail
       refine CI.out.mono ?_
       rintro e wq ⟨rfl, rfl⟩
       go_wp2_with (at_builtin; go_loud (refine wpList_appInt2 rfl _ _ rfl 0 (Z k) _ _ rfl rfl (IZ.out.keep (below1 _ _)) (blk_new _ _ rfl) LN.out (TZ.out.keep (below1 _ _)) ?_))
       intro v' w9 hir htx
       have IN := hd9 (NX.out ▸ hir)
       have TN := hd9 (show TxZ wA w9 (K (k + 1)) _ from by rw [NK.out]; exact htx)
       clear hir htx
       go_wp2
       go_roundw
       case rel => exact ⟨k + 1, by omega, by go_num, TN.out, IN.out, ON.out⟩
       case measure => simp [intOf]; omega
      ·have NN := hd9 (show ¬ (⟨0, 1, t⟩ : It) = noI from fun e => absurd (congrArg It.d e) (show ¬ (1 : Int) = 0 by decide))
       have PO2 := hd9 (show 0 ≤ findL (K k) t → Z (k + 1) = Z k ++ [findL (K k) t + 1] from fun h => PO1.out NN.out h)
       have PN2 := hd9 (show ¬ 0 ≤ findL (K k) t → Z (k + 1) = Z k ++ [((K k).length : Int) + 1] from fun h => PN1.out NN.out (by first | exact h | (have h' := h; simp only [Int.not_le] at h'; exact h')))
       have KN2 := hd9 (show ¬ 0 ≤ findL (K k) t → K (k + 1) = K k ++ [t] from fun h => KN1.out NN.out (by first | exact h | (have h' := h; simp only [Int.not_le] at h'; exact h')))
       have KO2 := hd9 (show 0 ≤ findL (K k) t → K (k + 1) = K k from fun h => KO1.out h)
       have hok' := hd9 (show OkT ⟨0, 1, t⟩ → t.size ≠ 0 from fun h => h.elim (fun e => absurd e NN.out) id)
       clear IT PM1 PO1 PN1 KM1 KN1 KO1
       obtain ⟨wa, hwa⟩ : ∃ W, wr.alloc (.cells #[.int .i64 0, .int .i64 1, .string t] 64) = W := ⟨_, rfl⟩
       have BX := hd9 (show Below wr.heap.size wr wa from hwa ▸ below1 wr _)
       have KB := hd9 (show wa.heap[wr.heap.size]? = some (.cells #[.int .i64 0, .int .i64 1, .string t] 64 (0, 0)) from hwa ▸ blk_new wr _ rfl)
       have TZ := hd9 (TZ.out.keep BX.out)
       have IZ := hd9 (IZ.out.keep BX.out)
       have EW := hd9 hwa
       have c0' : wr.cell? ⟨ba, off + k * 3, none⟩ = some (.int .i64 0) := c0
       have c1' : wr.cell? ⟨ba, off + k * 3 + 1, none⟩ = some (.int .i64 1) := c1
       have c2' : wr.cell? ⟨ba, off + k * 3 + 2, none⟩ = some (.string t) := c2
       clear hwa c0 c1 c2
       by_cases ht0 : t.size = 0
       ·have NA := hd9 (show ¬ AllT l from fun h => hok'.out (ATk.out h) ht0)
        obtain ⟨y1, y2⟩ := TB.out NA.out
        have Y1 := hd9 (X1.out.trans y1)
        have Y2 := hd9 (X2.out.trans y2)
        obtain rfl := empty_of_size ht0
        have BZ := hd9 (below_then BA.out IZ.out.below)
        clear y1 y2 ht0 hok' ATk OKN PO2 PN2 KN2 KO2 NA
        obtain ⟨k0, k1, k2, k3, k4, k5, k6, k7⟩ := vec8 KAr.out
        go_upto_region 28 with (fail)
        rw [EW.out]
        clear k0 k1 k2 k3 k4 k5 k6 k7
        have k0 := cellOf KB.out (i := 0) rfl
        have k1 := cellOf KB.out (i := 1) rfl
        have k2 := cellOf KB.out (i := 2) rfl
        go_wp2
        go_ret2
        rw [Y2.out, Y1.out]
        exact ⟨_, rfl, IntZ.nil0 w _ BZ.out⟩
       ·have hne := notEmptyB ht0
        have ON := hd9 (OKN.out (.inr ht0))
        clear ht0 hok' ATk OKN
        have CI := hd9 (show Calls Tryz.prog 40 #[.slice s8 (K k).length c8, .string t] wa (fun e w' => e = .returned (.int .i64 (findL (K k) t)) ∧ wa = w') from specFindAt t s8 (K k).length c8 (fun i => (K k).getD i ⟨#[]⟩) wa.heap.size wa (texts_strs TZ.out.texts) (by have := LK.out; omega))
        have FH := hd9 (findL_lt (K k) t)
        by_cases hin : 0 ≤ findL (K k) t
        ·have NX := hd9 (PO2.out hin)
         have NK := hd9 (KO2.out hin)
         have hz1 := FH.out
         have hlk := LK.out
         clear PO2 PN2 KN2 KO2 FH
         obtain ⟨z, hz⟩ : ∃ z, findL (K k) t = z := ⟨_, rfl⟩
         rw [hz] at CI NX hin hz1
         clear hz
         have hzn : ¬ z < 0 := by omega
         obtain ⟨k0, k1, k2, k3, k4, k5, k6, k7⟩ := vec8 KAr.out
         go_upto_region 28 with (fail)
         rw [EW.out]
         clear k0 k1 k2 k3 k4 k5 k6 k7
         have k0 := cellOf KB.out (i := 0) rfl
         have k1 := cellOf KB.out (i := 1) rfl
         have k2 := cellOf KB.out (i := 2) rfl
         go_wp2_with fail
         refine CI.out.mono ?_
         rintro e wq ⟨rfl, rfl⟩
         go_wp2_with (at_builtin; go_loud (refine wpList_appInt2 rfl _ _ rfl (z + 1) (Z k) _ _ rfl rfl (IZ.out.keep (below1 _ _)) (blk_new _ _ rfl) LN.out (TZ.out.keep (below1 _ _)) ?_))
         intro v' w9 hir htx
         have IN := hd9 (NX.out ▸ hir)
         have TN := hd9 (show TxZ wA w9 (K (k + 1)) _ from by rw [NK.out]; exact htx)
         clear hir htx
         go_wp2
         go_roundw
         case rel => exact ⟨k + 1, by omega, by go_num, TN.out, IN.out, ON.out⟩
         case measure => simp [intOf]; omega
        ·have NX := hd9 (PN2.out hin)
         have NK := hd9 (KN2.out hin)
         have hlk := LK.out
         clear PO2 PN2 KN2 KO2 FH
         obtain ⟨z, hz⟩ : ∃ z, findL (K k) t = z := ⟨_, rfl⟩
         rw [hz] at CI hin
         clear hz
         have hzn : z < 0 := by omega
         obtain ⟨k0, k1, k2, k3, k4, k5, k6, k7⟩ := vec8 KAr.out
         go_upto_region 28 with (fail)
         rw [EW.out]
         clear k0 k1 k2 k3 k4 k5 k6 k7
         have k0 := cellOf KB.out (i := 0) rfl
         have k1 := cellOf KB.out (i := 1) rfl
         have k2 := cellOf KB.out (i := 2) rfl
         go_wp2_with fail
         refine CI.out.mono ?_
         rintro e wq ⟨rfl, rfl⟩
         go_wp2_with (at_builtin; go_loud (refine wpList_appTx2 rfl _ _ rfl t (K k) _ _ rfl rfl (TZ.out.keep (below1 _ _)) (blk_new _ _ rfl) LK.out (IZ.out.keep (below1 _ _)) ?_))
         intro v' w8 htx hir _
         have TN := hd9 htx
         have IZ3 := hd9 hir
         clear htx hir
         go_wp2_with (at_builtin; go_loud (refine wpList_appInt2 rfl _ _ rfl (((K k).length : Int) + 1) (Z k) _ _ rfl rfl (IZ3.out.keep (below1 _ _)) (blk_new _ _ rfl) LN.out (TN.out.keep (below1 _ _)) ?_))
         intro v' w9 hir htx
         have IN := hd9 (NX.out ▸ hir)
         have TN := hd9 (show TxZ wA w9 (K (k + 1)) _ from by rw [NK.out]; exact htx)
         clear hir htx
         go_wp2
         go_roundw
         case rel => exact ⟨k + 1, by omega, by go_num, TN.out, IN.out, ON.out⟩
         case measure => simp [intOf]; omega
     ·obtain rfl : k = m := by omega
      have AA := hd9 (AT.out.2 OK.out)
      obtain ⟨y1, y2⟩ := TO.out AA.out
      have Y1 := hd9 (X1.out.trans y1)
      have Y2 := hd9 (X2.out.trans y2)
      clear y1 y2 TO TB
      obtain ⟨k0, k1, k2, k3, k4, k5, k6, k7⟩ := vec8 KAr.out
      go_wp2
      go_ret2
      exact ⟨_, by rw [Y2.out]; rfl, by rw [Y1.out]; exact IZ.out.wide BA.out⟩
 ·go_wp2_with fail
  refine (CL.out _).mono ?_
  rintro e wq ⟨rfl, rfl⟩
  go_wp2_with (at_builtin; go_loud (rw [EW.out]; refine wpList_copyTz (w0 := w2) rfl _ _ rfl _ rfl (.inr ⟨w2.heap.size, Nat.le_refl _, rfl, KS.out⟩) B23.out na nc nms lo2 hi2 rfl HT3.out ln2 ?_))
  intro v13 w4 htz
  have I4 := hd9 (show IntZ wA w4 (Z 0) (.slice (some ⟨w.heap.size + 1, 0, none⟩) 0 0) from P0.out ▸ ST.out.keep htz.below)
  have T4 := hd9 (show TxZ wA w4 (nms ++ List.replicate 0 ⟨#[]⟩) v13 from by rw [List.replicate_zero, List.append_nil]; exact htz.wideT ST.out.below)
  clear htz k0 k1 k2 k3 k4 k5 k6 k7 EW KS B23 HT3
  obtain ⟨nn, hnn⟩ : ∃ x, nms.length = x := ⟨_, rfl⟩
  rw [hnn] at hnl RL PD
  clear hnn
  go_wp2
  go_loopw [13] (fun v13 wr => ∃ j : Nat, nn + j ≤ N ∧ TxZ wA wr (nms ++ List.replicate j ⟨#[]⟩) v13 ∧ IntZ wA wr (Z 0) (.slice (some ⟨w.heap.size + 1, 0, none⟩) 0 0)) (fun v13 _ => N - lenS v13)
  case atStart => exact ⟨0, hnl, T4.out, I4.out⟩
  case round =>
   obtain ⟨j, hj, ht, hz⟩ := hrel
   have TZ := hd9 ht
   have IZ := hd9 hz
   clear ht hz
   obtain ⟨s3, n3, c3, rfl⟩ := TZ.out.form
   obtain rfl := TZ.out.slice
   have hjl := RL.out j
   have RJ1 := hd9 (RJ.out j)
   have PD1 := hd9 (PD.out j)
   obtain ⟨KJ, hKJ⟩ : ∃ X, nms ++ List.replicate j (⟨#[]⟩ : ByteArray) = X := ⟨_, rfl⟩
   rw [hKJ] at TZ hjl RJ1 PD1 ⊢
   clear hKJ
   by_cases hlt : KJ.length < N
   ·have LK := hd9 (show KJ.length ≤ 1048576 by omega)
    go_wp2_with (at_builtin; go_loud (refine wpList_appTx2 rfl _ _ rfl ⟨#[]⟩ KJ _ _ rfl rfl (TZ.out.keep (below1 _ _)) (blk_new _ _ rfl) LK.out (IZ.out.keep (below1 _ _)) ?_))
    intro v' w5 htx hir _
    obtain ⟨s4, n4, c4, rfl⟩ := htx.form
    obtain rfl := htx.slice
    have hl5 : (KJ ++ [(⟨#[]⟩ : ByteArray)]).length = KJ.length + 1 := by simp
    have IN := hd9 hir
    have TN := hd9 (show TxZ wA w5 (nms ++ List.replicate (j + 1) ⟨#[]⟩) _ from by rw [← RJ1.out]; exact htx)
    clear htx hir
    rw [hl5]
    rw [hl5] at TN
    go_wp2
    go_roundw
    case rel => exact ⟨j + 1, by omega, TN.out, IN.out⟩
    case measure => simp [lenS]; omega
   ·have hle : KJ.length = N := by omega
    have hnlt : ¬ ((N : Int) < (N : Int)) := by omega
    obtain rfl := PD1.out (by omega)
    have T5 := hd9 (show TxZ wA wr (K 0) (.slice s3 KJ.length c3) from by rw [K0.out]; exact TZ.out)
    have I5 := hd9 IZ.out
    rw [hle]
    rw [hle] at T5
    clear TZ IZ RJ RJ1 PD PD1 hjl RL hlt hle hj
    go_wp2
    go_loopw [8, 13, 14] (fun v8 v13 v14 wr => ∃ k : Nat, k ≤ m ∧ v14 = .int .i64 k ∧ TxZ wA wr (K k) v13 ∧ IntZ wA wr (Z k) v8 ∧ ∀ j, j < k → OkT (l.getD j noI)) (fun _ _ v14 _ => m - (intOf v14).toNat)
    case atStart => exact ⟨0, Nat.zero_le _, rfl, T5.out, I5.out, fun _ h => absurd h (Nat.not_lt_zero _)⟩
    case round =>
     obtain ⟨k, hk, rfl, ht, hz, hok⟩ := hrel
     have TZ := hd9 ht
     have IZ := hd9 hz
     have OK := hd9 hok
     clear ht hz hok
     have KAr := hd9 (show wr.heap[w.heap.size]? = some (.cells #[.int .i64 kk, .slice ai m ci, .slice ap parts.length cp, .slice an names.length cn, .slice ac cls.length cc, .slice al levels.length cl, .int .i64 code, .int .i64 env] 31 (0, 0)) from (IZ.out.below.block _ HSA.out).trans KA.out)
     by_cases hlt : k < m
     ·obtain ⟨ba, off, rfl, hbB, c0, c1, c2'⟩ := AI.out k wr hlt (below_then BA.out IZ.out.below)
      have c2 : wr.cell? ⟨ba, off + k * 3 + 2, none⟩ = some (.string (l.getD k noI).t) := c2'
      have IT := HIT3.out k hlt
      have LN := hd9 (show (Z k).length ≤ 1048576 by rw [PL.out k]; omega)
      have LK := hd9 (show (K k).length ≤ 1048576 by have := KL.out k; omega)
      have ATk := hd9 (show AllT l → OkT (l.getD k noI) from fun h => AT.out.1 h k hlt)
      have PM1 := hd9 (PM.out k)
      have PO1 := hd9 (PO.out k)
      have PN1 := hd9 (PN.out k)
      have KM1 := hd9 (KM.out k)
      have KO1 := hd9 (KO.out k)
      have KN1 := hd9 (KN.out k)
      have OKN := hd9 (show OkT (l.getD k noI) → ∀ j, j < k + 1 → OkT (l.getD j noI) from fun h j hj => by
       by_cases e : j = k
       ·subst e; exact h
       ·exact OK.out j (by omega))
      obtain ⟨x, hx⟩ : ∃ x, l.getD k noI = x := ⟨_, rfl⟩
      rw [hx] at c0 c1 c2 IT PM1 PO1 PN1 KM1 KO1 KN1 OKN ATk
      clear hx c2'
      have hcase : x = noI ∨ ∃ t : ByteArray, x = ⟨0, 1, t⟩ := by
       rcases IT with h | ⟨h, _⟩ | ⟨h, _⟩ | ⟨_, h1, h2, _⟩
       ·exact .inl h
       ·exact absurd h (by decide)
       ·exact absurd h (by decide)
       ·obtain ⟨xn, xd, xt⟩ := x
        have h1' : xn = 0 := h1
        have h2' : xd = 1 := h2
        subst h1' h2'
        exact .inr ⟨xt, rfl⟩
      obtain ⟨s8, n8, c8, rfl⟩ := TZ.out.form
      obtain rfl := TZ.out.slice
      rcases hcase with rfl | ⟨t, rfl⟩
      ·have NX := hd9 (PM1.out rfl)
       have NK := hd9 (KM1.out rfl)
       have ON := hd9 (OKN.out (.inl rfl))
       clear PM1 PO1 PN1 KM1 KO1 KN1 OKN ATk IT
       obtain ⟨wa, hwa⟩ : ∃ W, wr.alloc (.cells #[.int .i64 0, .int .i64 0, .string ⟨#[]⟩] 64) = W := ⟨_, rfl⟩
       have BX := hd9 (show Below wr.heap.size wr wa from hwa ▸ below1 wr _)
       have KB := hd9 (show wa.heap[wr.heap.size]? = some (.cells #[.int .i64 0, .int .i64 0, .string ⟨#[]⟩] 64 (0, 0)) from hwa ▸ blk_new wr _ rfl)
       have TZ := hd9 (TZ.out.keep BX.out)
       have IZ := hd9 (IZ.out.keep BX.out)
       have EW := hd9 hwa
       have c0' : wr.cell? ⟨ba, off + k * 3, none⟩ = some (.int .i64 0) := c0
       have c1' : wr.cell? ⟨ba, off + k * 3 + 1, none⟩ = some (.int .i64 0) := c1
       have c2' : wr.cell? ⟨ba, off + k * 3 + 2, none⟩ = some (.string ⟨#[]⟩) := c2
       clear hwa c0 c1 c2
       have CI := hd9 (specFindAt ⟨#[]⟩ s8 (K k).length c8 (fun i => (K k).getD i ⟨#[]⟩) wa.heap.size wa (texts_strs TZ.out.texts) (by have := LK.out; omega))
       obtain ⟨z, hz⟩ : ∃ z, findF (⟨#[]⟩ : ByteArray) (fun i => (K k).getD i ⟨#[]⟩) (K k).length 0 = z := ⟨_, rfl⟩
       rw [hz] at CI
       clear hz
       obtain ⟨k0, k1, k2, k3, k4, k5, k6, k7⟩ := vec8 KAr.out
       go_upto_region 28 with (fail)
       rw [EW.out]
       clear k0 k1 k2 k3 k4 k5 k6 k7
       have k0 := cellOf KB.out (i := 0) rfl
       have k1 := cellOf KB.out (i := 1) rfl
       have k2 := cellOf KB.out (i := 2) rfl
       go_wp2_with fail
       refine CI.out.mono ?_
       rintro e wq ⟨rfl, rfl⟩
       go_wp2_with (at_builtin; go_loud (refine wpList_appInt2 rfl _ _ rfl 0 (Z k) _ _ rfl rfl (IZ.out.keep (below1 _ _)) (blk_new _ _ rfl) LN.out (TZ.out.keep (below1 _ _)) ?_))
       intro v' w9 hir htx
       have IN := hd9 (NX.out ▸ hir)
       have TN := hd9 (show TxZ wA w9 (K (k + 1)) _ from by rw [NK.out]; exact htx)
       clear hir htx
       go_wp2
       go_roundw
       case rel => exact ⟨k + 1, by omega, by go_num, TN.out, IN.out, ON.out⟩
       case measure => simp [intOf]; omega
      ·have NN := hd9 (show ¬ (⟨0, 1, t⟩ : It) = noI from fun e => absurd (congrArg It.d e) (show ¬ (1 : Int) = 0 by decide))
       have PO2 := hd9 (show 0 ≤ findL (K k) t → Z (k + 1) = Z k ++ [findL (K k) t + 1] from fun h => PO1.out NN.out h)
       have PN2 := hd9 (show ¬ 0 ≤ findL (K k) t → Z (k + 1) = Z k ++ [((K k).length : Int) + 1] from fun h => PN1.out NN.out (by first | exact h | (have h' := h; simp only [Int.not_le] at h'; exact h')))
       have KN2 := hd9 (show ¬ 0 ≤ findL (K k) t → K (k + 1) = K k ++ [t] from fun h => KN1.out NN.out (by first | exact h | (have h' := h; simp only [Int.not_le] at h'; exact h')))
       have KO2 := hd9 (show 0 ≤ findL (K k) t → K (k + 1) = K k from fun h => KO1.out h)
       have hok' := hd9 (show OkT ⟨0, 1, t⟩ → t.size ≠ 0 from fun h => h.elim (fun e => absurd e NN.out) id)
       clear IT PM1 PO1 PN1 KM1 KN1 KO1
       obtain ⟨wa, hwa⟩ : ∃ W, wr.alloc (.cells #[.int .i64 0, .int .i64 1, .string t] 64) = W := ⟨_, rfl⟩
       have BX := hd9 (show Below wr.heap.size wr wa from hwa ▸ below1 wr _)
       have KB := hd9 (show wa.heap[wr.heap.size]? = some (.cells #[.int .i64 0, .int .i64 1, .string t] 64 (0, 0)) from hwa ▸ blk_new wr _ rfl)
       have TZ := hd9 (TZ.out.keep BX.out)
       have IZ := hd9 (IZ.out.keep BX.out)
       have EW := hd9 hwa
       have c0' : wr.cell? ⟨ba, off + k * 3, none⟩ = some (.int .i64 0) := c0
       have c1' : wr.cell? ⟨ba, off + k * 3 + 1, none⟩ = some (.int .i64 1) := c1
       have c2' : wr.cell? ⟨ba, off + k * 3 + 2, none⟩ = some (.string t) := c2
       clear hwa c0 c1 c2
       by_cases ht0 : t.size = 0
       ·have NA := hd9 (show ¬ AllT l from fun h => hok'.out (ATk.out h) ht0)
        obtain ⟨y1, y2⟩ := TB.out NA.out
        have Y1 := hd9 (X1.out.trans y1)
        have Y2 := hd9 (X2.out.trans y2)
        obtain rfl := empty_of_size ht0
        have BZ := hd9 (below_then BA.out IZ.out.below)
        clear y1 y2 ht0 hok' ATk OKN PO2 PN2 KN2 KO2 NA
        obtain ⟨k0, k1, k2, k3, k4, k5, k6, k7⟩ := vec8 KAr.out
        go_upto_region 28 with (fail)
        rw [EW.out]
        clear k0 k1 k2 k3 k4 k5 k6 k7
        have k0 := cellOf KB.out (i := 0) rfl
        have k1 := cellOf KB.out (i := 1) rfl
        have k2 := cellOf KB.out (i := 2) rfl
        go_wp2
        go_ret2
        rw [Y2.out, Y1.out]
        exact ⟨_, rfl, IntZ.nil0 w _ BZ.out⟩
       ·have hne := notEmptyB ht0
        have ON := hd9 (OKN.out (.inr ht0))
        clear ht0 hok' ATk OKN
        have CI := hd9 (show Calls Tryz.prog 40 #[.slice s8 (K k).length c8, .string t] wa (fun e w' => e = .returned (.int .i64 (findL (K k) t)) ∧ wa = w') from specFindAt t s8 (K k).length c8 (fun i => (K k).getD i ⟨#[]⟩) wa.heap.size wa (texts_strs TZ.out.texts) (by have := LK.out; omega))
        have FH := hd9 (findL_lt (K k) t)
        by_cases hin : 0 ≤ findL (K k) t
        ·have NX := hd9 (PO2.out hin)
         have NK := hd9 (KO2.out hin)
         have hz1 := FH.out
         have hlk := LK.out
         clear PO2 PN2 KN2 KO2 FH
         obtain ⟨z, hz⟩ : ∃ z, findL (K k) t = z := ⟨_, rfl⟩
         rw [hz] at CI NX hin hz1
         clear hz
         have hzn : ¬ z < 0 := by omega
         obtain ⟨k0, k1, k2, k3, k4, k5, k6, k7⟩ := vec8 KAr.out
         go_upto_region 28 with (fail)
         rw [EW.out]
         clear k0 k1 k2 k3 k4 k5 k6 k7
         have k0 := cellOf KB.out (i := 0) rfl
         have k1 := cellOf KB.out (i := 1) rfl
         have k2 := cellOf KB.out (i := 2) rfl
         go_wp2_with fail
         refine CI.out.mono ?_
         rintro e wq ⟨rfl, rfl⟩
         go_wp2_with (at_builtin; go_loud (refine wpList_appInt2 rfl _ _ rfl (z + 1) (Z k) _ _ rfl rfl (IZ.out.keep (below1 _ _)) (blk_new _ _ rfl) LN.out (TZ.out.keep (below1 _ _)) ?_))
         intro v' w9 hir htx
         have IN := hd9 (NX.out ▸ hir)
         have TN := hd9 (show TxZ wA w9 (K (k + 1)) _ from by rw [NK.out]; exact htx)
         clear hir htx
         go_wp2
         go_roundw
         case rel => exact ⟨k + 1, by omega, by go_num, TN.out, IN.out, ON.out⟩
         case measure => simp [intOf]; omega
        ·have NX := hd9 (PN2.out hin)
         have NK := hd9 (KN2.out hin)
         have hlk := LK.out
         clear PO2 PN2 KN2 KO2 FH
         obtain ⟨z, hz⟩ : ∃ z, findL (K k) t = z := ⟨_, rfl⟩
         rw [hz] at CI hin
         clear hz
         have hzn : z < 0 := by omega
         obtain ⟨k0, k1, k2, k3, k4, k5, k6, k7⟩ := vec8 KAr.out
         go_upto_region 28 with (fail)
         rw [EW.out]
         clear k0 k1 k2 k3 k4 k5 k6 k7
         have k0 := cellOf KB.out (i := 0) rfl
         have k1 := cellOf KB.out (i := 1) rfl
         have k2 := cellOf KB.out (i := 2) rfl
         go_wp2_with fail
         refine CI.out.mono ?_
         rintro e wq ⟨rfl, rfl⟩
         go_wp2_with (at_builtin; go_loud (refine wpList_appTx2 rfl _ _ rfl t (K k) _ _ rfl rfl (TZ.out.keep (below1 _ _)) (blk_new _ _ rfl) LK.out (IZ.out.keep (below1 _ _)) ?_))
         intro v' w8 htx hir _
         have TN := hd9 htx
         have IZ3 := hd9 hir
         clear htx hir
         go_wp2_with (at_builtin; go_loud (refine wpList_appInt2 rfl _ _ rfl (((K k).length : Int) + 1) (Z k) _ _ rfl rfl (IZ3.out.keep (below1 _ _)) (blk_new _ _ rfl) LN.out (TN.out.keep (below1 _ _)) ?_))
         intro v' w9 hir htx
         have IN := hd9 (NX.out ▸ hir)
         have TN := hd9 (show TxZ wA w9 (K (k + 1)) _ from by rw [NK.out]; exact htx)
         clear hir htx
         go_wp2
         go_roundw
         case rel => exact ⟨k + 1, by omega, by go_num, TN.out, IN.out, ON.out⟩
         case measure => simp [intOf]; omega
     ·obtain rfl : k = m := by omega
      have AA := hd9 (AT.out.2 OK.out)
      obtain ⟨y1, y2⟩ := TO.out AA.out
      have Y1 := hd9 (X1.out.trans y1)
      have Y2 := hd9 (X2.out.trans y2)
      clear y1 y2 TO TB
      obtain ⟨k0, k1, k2, k3, k4, k5, k6, k7⟩ := vec8 KAr.out
      go_wp2
      go_ret2
      exact ⟨_, by rw [Y2.out]; rfl, by rw [Y1.out]; exact IZ.out.wide BA.out⟩
end Go.Proofs.YteoalkjngkcheaaGreat

/- ResolvePositions of the reference. -/
namespace Go.Proofs.YteoalkjngkcheaaGreat
open Go.RowKit
set_option maxRecDepth 100000
set_option linter.unusedVariables false

theorem specResolve (d : Nat) (v : Vec) (val : Value) (n : Int) (nms : List ByteArray) (na : Option Addr) (nc lo hi lo2 hi2 : Nat) (w : World) (hv : VecAt lo hi w d v val) (hhi : hi ≤ w.heap.size) (hsm : Small d v) (hT : TextsAt lo2 hi2 w na nms) (hh2 : hi2 ≤ w.heap.size) (ln2 : nms.length ≤ 1048576) :
  Calls Tryz.prog 16 #[.int .i64 n, .slice na nms.length nc, val] w (ResZ (rsZ n nms v) (rsS n nms v) w) := by
 by_cases h : ValidV v ∧ NmOk n nms ∧ (kindV v = 1 ∨ kindV v = 3 ∨ kindV v = 0)
 ·obtain ⟨h1, h2, h3 | h3⟩ := h
  ·exact specResolveL d v val n nms na nc lo hi lo2 hi2 w hv hhi hsm hT hh2 ln2 h1 h2 h3
  ·exact specResolveT d v val n nms na nc lo hi lo2 hi2 w hv hhi hsm hT hh2 ln2 h1 h2 h3
 ·exact specResolveA d v val n nms na nc lo hi lo2 hi2 w hv hhi hsm hT hh2 ln2 h
end Go.Proofs.YteoalkjngkcheaaGreat

/- The reference's l4Pick: parts of a list at positions within its length. -/
namespace Go.Proofs.YteoalkjngkcheaaGreat
open Go.RowKit
set_option maxRecDepth 100000
set_option linter.unusedVariables false

end Go.Proofs.YteoalkjngkcheaaGreat

/- ReverseOf: data, both sides. -/
namespace Go.Proofs.YteoalkjngkcheaaGreat
open Go.RowKit
set_option maxRecDepth 100000
set_option linter.unusedVariables false

/-- The indexes backwards. -/
def rvI (n : Nat) : List Nat := (List.range n).map (fun p => n - 1 - p)
noncomputable def revS (v : Vec) : ByteArray := match bB (ValidV v), bB (kindV v = 5) with | false, _ => badB | true, true => nelB | true, false => ⟨#[]⟩
noncomputable def revV (v : Vec) : Vec := match bB (ValidV v ∧ ¬ kindV v = 5), v with
 | true, .mk kk items parts names cls levels _ _ => selV kk items parts names cls levels (rvI (items.length + parts.length))
 | false, _ => noV
def dnL (n k : Nat) : List Int := (List.range k).map (fun (i : Nat) => (n : Int) - i)
end Go.Proofs.YteoalkjngkcheaaGreat

/- ElementOf: the reference. -/
namespace Go.Proofs.YteoalkjngkcheaaGreat
open Go.RowKit
set_option maxRecDepth 100000
set_option linter.unusedVariables false

theorem specLenW (d : Nat) (v : Vec) (val : Value) (lo hi : Nat) (w : World) (hv : VecAt lo hi w d v val) (hsm : Small d v) :
  Calls Tryz.prog 17 #[val] w fun e w' => e = .returned (.int .i64 ((lengthV v : Nat) : Int)) ∧ Below w.heap.size w w' := by
 obtain ⟨k, items, parts, names, cls, levels, code, env⟩ := v
 obtain ⟨d', ai, ci, ap, cp, an, cn, ac, cc, al, cl, ed, rfl, _⟩ := vecAt_open hv
 subst ed
 exact specLen k ai ap an ac al items.length ci parts.length cp names.length cn cls.length cc levels.length cl code env w hsm.1 hsm.2.1
end Go.Proofs.YteoalkjngkcheaaGreat

/- The reference's l4Pick: parts of a list at any positions. -/
namespace Go.Proofs.YteoalkjngkcheaaGreat
open Go.RowKit
set_option maxRecDepth 100000
set_option linter.unusedVariables false

theorem build_v0Z {w : World} : (Instr.build 31 #[]).run Tryz.prog w = .ok (.agg #[.int .i64 0, .slice none 0 0, .slice none 0 0, .slice none 0 0, .slice none 0 0, .slice none 0 0, .int .i64 0, .int .i64 0]) w := by
 kernel_rfl
section
variable {ops : Array Oper} {Q : Exit → Act → World → Prop} {S : World → Prop}
variable {r : List (Nat × Bool)} {a : Act} {e : List (Nat × Value)} {w : World} {i d : Nat} {g : Option (Nat × Bool)}
theorem bldV0Z (ho : opAt ops i = some (some d, .build 31 #[], g)) (hd : Nat.blt d a.tmps.size = true) (hw : wantE ops a e g = some true)
  (h : RunE Tryz.prog ops Q S r a ((d, .agg #[.int .i64 0, .slice none 0 0, .slice none 0 0, .slice none 0 0, .slice none 0 0, .slice none 0 0, .int .i64 0, .int .i64 0]) :: e) w) : RunE Tryz.prog ops Q S ((i, true) :: r) a e w :=
 run_yield ho hd hw (fun o w' h1 _ => by
  unfold execOp
  simp only [h1, List.map_toArray, List.map_nil]
  exact run_v build_v0Z) h
end
set_option maxHeartbeats 8000000 in
theorem specPickQ (d : Nat) (items : List It) (parts : List Vec) (names cls levels : List ByteArray) (code env : Int) (ai ap an ac al xi : Option Addr) (ci cp cn cc cl xc lo hi B : Nat) (idx : List Nat) (p : Nat → Int) (w : World) (hP : VecsAt lo hi w (d + 1) ap parts) (hN : TextsAt lo hi w an names) (hhi : hi ≤ w.heap.size)
  (li : items.length = 0) (lp : parts.length ≤ 1048576) (ln : names.length ≤ 1048576) (ll : levels.length = 0) (hsm : ∀ p ∈ parts, Small (d + 1) p) (hall : ∀ i, i < parts.length → AllIs (d + 1) (parts.getD i noV) ∧ (partsV (parts.getD i noV)).length ≤ 41) (hs : IntsAt B w xi idx.length p) (hbd : ∀ i, i < idx.length → -1048576 ≤ p i ∧ p i ≤ 1048576) (hB : B ≤ w.heap.size) (hn : idx.length ≤ 1048576)
  (hin : ∀ i, i < idx.length → (p i = ((idx.getD i 0 : Nat) : Int) + 1 ∧ idx.getD i 0 < parts.length) ∨ (idx.getD i 0 = parts.length ∧ ¬ (1 ≤ p i ∧ p i ≤ (parts.length : Int)))) (hnm : names.length ≠ 0 → names.length = parts.length) :
  Calls Tryz.prog 19 #[.agg #[.int .i64 4, .slice ai items.length ci, .slice ap parts.length cp, .slice an names.length cn, .slice ac cls.length cc, .slice al levels.length cl, .int .i64 code, .int .i64 env], .slice xi idx.length xc] w (ResV (d + 1 + 1) (.mk 4 [] (pkL noV (parts ++ [noV]) idx) (clnN (pkL ⟨#[]⟩ (misN names) idx)) (kpC levels cls) levels 0 0) w) := by
 have AI := hd9 (fun (k : Nat) (hk : k < parts.length) => hP.at_ hk)
 have CP := hd9 (fun (k : Nat) (w1 : World) (x : Value) (hk : k < parts.length) (hb : Below w.heap.size w w1) (hv : VecAt lo hi w (d + 1) (parts.getD k noV) x) => (scvAll (d + 1)).out _ x lo hi w1 (hv.below hb hhi) (Nat.le_trans hhi hb.size) (hsm _ (by rw [List.getD_eq_getElem?_getD, List.getElem?_eq_getElem hk]; exact List.getElem_mem hk)) (hall k hk).1 (hall k hk).2)
 have AN := hd9 (fun (k : Nat) (w1 : World) (hk : k < names.length) (hb : Below w.heap.size w w1) => (show ∃ b off, an = some ⟨b, off, none⟩ ∧ b < hi ∧ w1.cell? ⟨b, off + k, none⟩ = some (.string (names.getD k ⟨#[]⟩)) from (by obtain ⟨b, off, e, _, h1, h2⟩ := (hN.below hb hhi) k (names.getD k ⟨#[]⟩) (by simp [List.getD_eq_getElem?_getD, hk]); exact ⟨b, off, e, h1, h2⟩)))
 have SA := hd9 hs
 have IN := hd9 hin
 have BD := hd9 hbd
 have XI := hd9 (fun q (hq : q < parts.length) => (by simp [List.getD_eq_getElem?_getD, List.getElem?_append_left hq] : (parts ++ [noV]).getD q noV = parts.getD q noV))
 have XI1 := hd9 (by simp [List.getD_eq_getElem?_getD] : (parts ++ [noV]).getD parts.length noV = noV)
 have XN := hd9 (fun q (hq : q < names.length) => (by rw [misN_some (by omega)]; simp [List.getD_eq_getElem?_getD, List.getElem?_append_left hq] : (misN names).getD q ⟨#[]⟩ = names.getD q ⟨#[]⟩))
 have XN1 := hd9 (fun (h : names.length ≠ 0) => (by rw [misN_some h, ← hnm h]; simp [List.getD_eq_getElem?_getD] : (misN names).getD parts.length ⟨#[]⟩ = naB))
 have LE := hd9 (fun W => (by have h := specLen 4 ai ap an ac al items.length ci parts.length cp names.length cn cls.length cc levels.length cl code env W (by omega) lp; rw [show lenV 4 items.length parts.length = parts.length by unfold lenV; rw [if_neg (by decide)]; omega] at h; exact h : Calls Tryz.prog 17 #[.agg #[.int .i64 4, .slice ai items.length ci, .slice ap parts.length cp, .slice an names.length cn, .slice ac cls.length cc, .slice al levels.length cl, .int .i64 code, .int .i64 env]] W (fun e w' => e = .returned (.int .i64 (parts.length : Nat)) ∧ Below W.heap.size W w')))
 have PI := hd9 (fun k (hk : k < idx.length) => pkT_succ (z := noV) (l := (parts ++ [noV])) (by simp) hk)
 have PN := hd9 (fun k (h : names.length ≠ 0) (hk : k < idx.length) => pkT_succ (z := ⟨#[]⟩) (l := (misN names)) (by rw [misN_some h]; simp) hk)
 have P0 := hd9 (fun (h : names.length = 0) k => (by rw [misN_nil h]; rfl : pkL ⟨#[]⟩ (misN names) (idx.take k) = []))
 have EV := hd9 (show (Vec.mk 4 [] (pkL noV (parts ++ [noV]) idx) (clnN (pkL ⟨#[]⟩ (misN names) idx)) (kpC levels cls) levels 0 0) = .mk 4 [] (pkL noV (parts ++ [noV]) (idx.take idx.length)) (clnN (pkL ⟨#[]⟩ (misN names) (idx.take idx.length))) (kpC levels cls) levels 0 0 by rw [pkT_full, pkT_full])
 have LI := hd9 (pkT_len noV (parts ++ [noV]) idx)
 have LM := hd9 (pkT_len ⟨#[]⟩ (misN names) idx)
 have EK0 := hd9 (fun (h : levels.length = 0) => (by rw [List.eq_nil_of_length_eq_zero h]; exact ⟨rfl, rfl⟩ : levels = [] ∧ kpC levels cls = []))
 have UST := hd9 (fun W => Und.start (w.heap.size + 1 + 1 + 1) W (d + 1))
 obtain ⟨V, hV⟩ : ∃ V, Vec.mk 4 [] (pkL noV (parts ++ [noV]) idx) (clnN (pkL ⟨#[]⟩ (misN names) idx)) (kpC levels cls) levels 0 0 = V := ⟨_, rfl⟩
 rw [hV] at EV ⊢
 obtain ⟨m, hm⟩ : ∃ m, idx.length = m := ⟨_, rfl⟩
 rw [hm] at SA IN BD PI PN EV hn ⊢
 obtain ⟨n, hn'⟩ : ∃ n, parts.length = n := ⟨_, rfl⟩
 rw [hn'] at AI CP IN LE XI XI1 XN1 lp hnm ⊢
 obtain ⟨nn, hnn⟩ : ∃ n, names.length = n := ⟨_, rfl⟩
 rw [hnn] at AN LE PN P0 XN XN1 ln hnm ⊢
 have LI0 := hd9 li
 have LL0 := hd9 ll
 clear hV hm hn' hnn hP hN hs hin hbd li ll hsm hall
 go_enter Tryz.func19, Tryz.ntmps19
 go_upto_region 2 with (fail)
 obtain ⟨w1, hw1⟩ : ∃ W, ((w.alloc (.cells #[.int .i64 4, .slice ai items.length ci, .slice ap n cp, .slice an nn cn, .slice ac cls.length cc, .slice al levels.length cl, .int .i64 code, .int .i64 env] 31)).alloc (.cells #[.int .i64 0, .slice none 0 0, .slice none 0 0, .slice none 0 0, .slice none 0 0, .slice none 0 0, .int .i64 0, .int .i64 0] 31)).alloc (.cells #[.int .i64 4, .slice none 0 0, .slice none 0 0, .slice none 0 0, .slice none 0 0, .slice none 0 0, .int .i64 0, .int .i64 0] 31) = W := ⟨_, rfl⟩
 have hsz : (w.alloc (.cells #[.int .i64 4, .slice ai items.length ci, .slice ap n cp, .slice an nn cn, .slice ac cls.length cc, .slice al levels.length cl, .int .i64 code, .int .i64 env] 31)).heap.size = w.heap.size + 1 := by simp
 have hsz2 : ((w.alloc (.cells #[.int .i64 4, .slice ai items.length ci, .slice ap n cp, .slice an nn cn, .slice ac cls.length cc, .slice al levels.length cl, .int .i64 code, .int .i64 env] 31)).alloc (.cells #[.int .i64 0, .slice none 0 0, .slice none 0 0, .slice none 0 0, .slice none 0 0, .slice none 0 0, .int .i64 0, .int .i64 0] 31)).heap.size = w.heap.size + 1 + 1 := by simp
 have BW := hd9 (show Below w.heap.size w w1 from hw1 ▸ ((below1 w _).alloc (by simp) _).alloc (by simp; omega) _)
 have KA := hd9 (show w1.heap[w.heap.size]? = some (.cells #[.int .i64 4, .slice ai items.length ci, .slice ap n cp, .slice an nn cn, .slice ac cls.length cc, .slice al levels.length cl, .int .i64 code, .int .i64 env] 31 (0, 0)) from hw1 ▸ blk_old (blk_old (blk_new w _ rfl)))
 have KR := hd9 (show w1.heap[w.heap.size + 1]? = some (.cells #[.int .i64 0, .slice none 0 0, .slice none 0 0, .slice none 0 0, .slice none 0 0, .slice none 0 0, .int .i64 0, .int .i64 0] 31 (0, 0)) from hw1 ▸ blk_old (hsz ▸ blk_new (w.alloc (.cells #[.int .i64 4, .slice ai items.length ci, .slice ap n cp, .slice an nn cn, .slice ac cls.length cc, .slice al levels.length cl, .int .i64 code, .int .i64 env] 31)) (.cells #[.int .i64 0, .slice none 0 0, .slice none 0 0, .slice none 0 0, .slice none 0 0, .slice none 0 0, .int .i64 0, .int .i64 0] 31) rfl))
 have KB := hd9 (show w1.heap[w.heap.size + 1 + 1]? = some (.cells #[.int .i64 4, .slice none 0 0, .slice none 0 0, .slice none 0 0, .slice none 0 0, .slice none 0 0, .int .i64 0, .int .i64 0] 31 (0, 0)) from hw1 ▸ hsz2 ▸ blk_new ((w.alloc (.cells #[.int .i64 4, .slice ai items.length ci, .slice ap n cp, .slice an nn cn, .slice ac cls.length cc, .slice al levels.length cl, .int .i64 code, .int .i64 env] 31)).alloc (.cells #[.int .i64 0, .slice none 0 0, .slice none 0 0, .slice none 0 0, .slice none 0 0, .slice none 0 0, .int .i64 0, .int .i64 0] 31)) (.cells #[.int .i64 4, .slice none 0 0, .slice none 0 0, .slice none 0 0, .slice none 0 0, .slice none 0 0, .int .i64 0, .int .i64 0] 31) rfl)
 rw [hw1]
 clear hw1 hsz hsz2
 have hrb : w.heap.size + 1 < w.heap.size + 1 + 1 := Nat.lt_succ_self _
 have hbw : w.heap.size < w.heap.size + 1 + 1 := by omega
 obtain ⟨b, hb⟩ : ∃ b, w.heap.size + 1 + 1 = b := ⟨_, rfl⟩
 rw [hb] at KB UST hrb hbw ⊢
 clear hb
 have hl0 : ((levels.length : Nat) : Int) ≤ 0 := by have := LL0.out; omega
 have U := hd9 (show Und (b + 1) w1 (d + 1) [] [] [] (kpC levels cls) levels _ _ _ _ _ [] from by obtain ⟨e1, e2⟩ := EK0.out LL0.out; rw [e2, e1]; exact UST.out w1)
 obtain ⟨a0, a1, a2, a3, a4, a5, a6, a7⟩ := vec8 KA.out
 go_wp2
 clear a0 a1 a2 a3 a4 a5 a6 a7 hl0
 obtain ⟨dv, hdv⟩ : ∃ dv, decide (0 < levels.length) = dv := ⟨_, rfl⟩
 try rw [hdv]
 clear hdv
 have W0 := hd9 (show w.heap.size ≤ b + 1 by omega)
 have B0' := hd9 (show w.heap.size ≤ b by omega)
 go_loopw [6] (fun i wr => ∃ (k : Nat) (vp vn : Value) (X : List Nat), k ≤ m ∧ i = .int .i64 k ∧ Below w.heap.size w wr ∧ wr.heap[w.heap.size]? = some (.cells #[.int .i64 4, .slice ai items.length ci, .slice ap n cp, .slice an nn cn, .slice ac cls.length cc, .slice al levels.length cl, .int .i64 code, .int .i64 env] 31 (0, 0)) ∧ wr.heap[w.heap.size + 1]? = some (.cells #[.int .i64 0, .slice none 0 0, .slice none 0 0, .slice none 0 0, .slice none 0 0, .slice none 0 0, .int .i64 0, .int .i64 0] 31 (0, 0)) ∧ wr.heap[b]? = some (.cells #[.int .i64 4, .slice none 0 0, vp, vn, .slice none 0 0, .slice none 0 0, .int .i64 0, .int .i64 0] 31 (0, 0)) ∧ Und (b + 1) wr (d + 1) [] (pkL noV (parts ++ [noV]) (idx.take k)) (pkL ⟨#[]⟩ (misN names) (idx.take k)) (kpC levels cls) levels (.slice none 0 0) vp vn (.slice none 0 0) (.slice none 0 0) X) (fun i _ => m - (intOf i).toNat)
 case atStart => exact ⟨0, .slice none 0 0, .slice none 0 0, [], Nat.zero_le _, rfl, BW.out, KA.out, KR.out, KB.out, by rw [pkT_zero, pkT_zero]; exact U.out⟩
 case round =>
  obtain ⟨k, vp, vn, X, hk, rfl, hbw', hka, hkr, hkb, hu⟩ := hrel
  have BW := hd9 hbw'
  have KA := hd9 hka
  have KR := hd9 hkr
  have KB := hd9 hkb
  have U := hd9 hu
  clear hbw' hka hkr hkb hu
  by_cases hlt : k < m
  ·obtain ⟨bi, oi, rfl, hbi, cx⟩ := (SA.out.below (BW.out.mono hB)) k hlt
   have hbd := BD.out k hlt
   have NXI := hd9 (PI.out k hlt)
   have PNk := hd9 (fun h => PN.out k h hlt)
   have INk := hd9 (IN.out k hlt)
   obtain ⟨q, hq'⟩ : ∃ q, idx.getD k 0 = q := ⟨_, rfl⟩
   rw [hq'] at INk NXI PNk
   clear hq'
   obtain ⟨z, hz⟩ : ∃ z, p k = z := ⟨_, rfl⟩
   rw [hz] at cx INk hbd
   clear hz
   rcases INk.out with ⟨hz, hq⟩ | ⟨hq, hz⟩
   ·subst hz
    have NXI := hd9 (by rw [XI.out q hq] at NXI; exact NXI.out)
    have PNk := hd9 (fun h => by have e := PNk.out h; rw [XN.out q (by have := hnm h; omega)] at e; exact e)
    clear INk hbd
    have IY := hd9 (fun W => inYes (q : Int) 0 ((n : Int) - 1) W (by omega) (by omega))
    obtain ⟨bp, offp, u0, u1, u2, u3, u4, u5, u6, u7, rfl, hbP, hvp, p0, p1, p2, p3, p4, p5, p6, p7⟩ := AI.out q hq
    have hbpw : bp < w.heap.size := Nat.lt_of_lt_of_le hbP hhi
    have CC := hd9 (fun (W : World) (hb : Below w.heap.size w W) => CP.out q W _ hq hb hvp)
    obtain ⟨x, hx⟩ : ∃ x, parts.getD q noV = x := ⟨_, rfl⟩
    rw [hx] at CC NXI
    clear hx hvp
    obtain ⟨a0, a1, a2, a3, a4, a5, a6, a7⟩ := vec8 KA.out
    go_wp2_with fail
    with_reducible refine (LE.out _).mono ?_
    rintro e wl ⟨rfl, b'⟩
    have BW := hd9 (below_then BW.out b')
    have KA := hd9 (blk_below b' KA.out)
    have KR := hd9 (blk_below b' KR.out)
    have KB := hd9 (blk_below b' KB.out)
    have U := hd9 (U.out.below b')
    clear b' a0 a1 a2 a3 a4 a5 a6 a7
    go_wp2_with fail
    with_reducible refine (IY.out _).mono ?_
    rintro e w' ⟨rfl, rfl⟩
    obtain ⟨a0, a1, a2, a3, a4, a5, a6, a7⟩ := vec8 KA.out
    have hbl := (gs9.1 KB.out).1
    by_cases h0 : nn = 0
    ·have e0 := P0.out h0 (k + 1)
     have e1 := P0.out h0 k
     have hn0 : (nn : Int) ≤ 0 := by omega
     have H0 := hd9 h0
     clear h0
     have LN := hd9 (show (pkL noV (parts ++ [noV]) (idx.take k)).length ≤ 1048576 by have := LI.out k; omega)
     have FAR := hd9 U.out.pb.2
     have H := hd9 (show HeldC w wl ([(w.heap.size, 31, #[.int .i64 4, .slice ai items.length ci, .slice (some ⟨bp, offp, none⟩) n cp, .slice an nn cn, .slice ac cls.length cc, .slice al levels.length cl, .int .i64 code, .int .i64 env]), (b, 31, #[.int .i64 4, .slice none 0 0, vp, vn, .slice none 0 0, .slice none 0 0, .int .i64 0, .int .i64 0])]) from heldC_cons (heldC_cons ⟨BW.out, (fun _ h => by cases h)⟩ KB.out) KA.out)
     have KRW := KR
     go_upto_region 11 with (fail)
     clear a0 a1 a2 a3 a4 a5 a6 a7
     refine run_region (ops := (opsOf Tryz.f19 11)) (S := fun w' => HeldC w w' ([(w.heap.size, 31, #[.int .i64 4, .slice ai items.length ci, .slice (some ⟨bp, offp, none⟩) n cp, .slice an nn cn, .slice ac cls.length cc, .slice al levels.length cl, .int .i64 code, .int .i64 env]), (b, 31, #[.int .i64 4, .slice none 0 0, vp, vn, .slice none 0 0, .slice none 0 0, .int .i64 0, .int .i64 0])])) [(0, true), (1, true), (2, true), (3, true), (4, true), (5, true), (6, true), (7, false), (8, false), (9, false), (10, true), (11, false)] (by kernel_rfl) (by kernel_rfl) (by kernel_rfl) (by kernel_rfl) (by kernel_rfl) (fun _ _ _ _ _ h => h) (heldC_drew H.out) ?_
     have H := hd9 (heldC_drew H.out)
     have U := hd9 (U.out.keep (below_drew' (Below.refl _ _)))
     refine runC_partV (b := b) (by kernel_rfl) (show opAt (opsOf Tryz.f19 11) 0 = some (some 48, .fieldAddr 31 (.tmp 5) 2, none) from by kernel_rfl) (by kernel_rfl) (by kernel_rfl) (by kernel_rfl) ?_
     refine runC_cell (b := b) (j := 2) (v := vp) load_vecs (show opAt (opsOf Tryz.f19 11) 1 = some (some 49, .load 29 (.tmp 48), none) from by kernel_rfl) (by kernel_rfl) (by kernel_rfl) (by kernel_rfl) (mt9 mh9) rfl ?_
     refine runC_partV (b := w.heap.size) (by kernel_rfl) (show opAt (opsOf Tryz.f19 11) 2 = some (some 50, .fieldAddr 31 (.tmp 2) 2, none) from by kernel_rfl) (by kernel_rfl) (by kernel_rfl) (by kernel_rfl) ?_
     refine runC_cell (b := w.heap.size) (j := 2) (v := .slice (some ⟨bp, offp, none⟩) n cp) load_vecs (show opAt (opsOf Tryz.f19 11) 3 = some (some 51, .load 29 (.tmp 50), none) from by kernel_rfl) (by kernel_rfl) (by kernel_rfl) (by kernel_rfl) mh9 rfl ?_
     refine run_mov (v := .int .i64 ((q : Int))) (show opAt (opsOf Tryz.f19 11) 4 = some (some 52, .move (.tmp 7), none) from by kernel_rfl) (by kernel_rfl) (by kernel_rfl) (by kernel_rfl) ?_
     refine run_idx8 (n := n) (c := cp) (b := bp) (off := offp) (k := q) (show opAt (opsOf Tryz.f19 11) 5 = some (some 53, .indexAddr 29 (.tmp 51) (.tmp 52), none) from by kernel_rfl) (by kernel_rfl) (by kernel_rfl) (by kernel_rfl) (by kernel_rfl) hq ?_
     refine runC_oldV (b := bp) (j := offp + q * 8) (show opAt (opsOf Tryz.f19 11) 6 = some (some 54, .load 31 (.tmp 53), none) from by kernel_rfl) (by kernel_rfl) (by kernel_rfl) (by kernel_rfl) hbpw p0 p1 p2 p3 p4 p5 p6 p7 ?_
     refine run_call (args := [.agg #[u0, u1, u2, u3, u4, u5, u6, u7]]) (show opAt (opsOf Tryz.f19 11) 7 = some (some 55, .call { callee := .value (.func 41), args := [(.tmp 54)].toArray, argTypes := [31].toArray }, none) from by kernel_rfl) (by kernel_rfl) (by kernel_rfl) (by kernel_rfl) (by kernel_rfl) ?_
     refine (CC.out _ H.out.1).mono ?_
     have HLO := hd9 (Nat.succ_le_of_lt (gs9.1 (heldC_at H.out (mt9 mh9))).1)
     rintro en rv1 ⟨y, rfl, ho, hb⟩
     obtain ⟨yk, ya1, yn1, ym1, ya2, yn2, ym2, ya3, yn3, ym3, ya4, yn4, ym4, ya5, yn5, ym5, yc, ye, rfl⟩ := ho.agg
     refine ⟨_, rfl, heldC_call H.out hb, ?_⟩
     have HO := hd9 ho
     have H := hd9 (heldC_call H.out hb)
     have HB := hd9 hb
     have KRW := hd9 (blk_below hb KRW.out)
     obtain ⟨vals, Fs, v1, v2, v3, v4, v5⟩ := (U.out.below hb).p.ex
     clear ho hb
     refine tail_vec3 (c0 := .int .i64 yk) (c1 := .slice ya1 yn1 ym1) (c2 := .slice ya2 yn2 ym2) (c3 := .slice ya3 yn3 ym3) (c4 := .slice ya4 yn4 ym4) (c5 := .slice ya5 yn5 ym5) (c6 := .int .i64 yc) (c7 := .int .i64 ye) (by intro u hu; simp only [List.mem_cons, List.not_mem_nil, or_false] at hu; rcases hu with rfl | rfl | rfl | rfl | rfl | rfl | rfl | rfl <;> rfl) (show opAt (opsOf Tryz.f19 11) 8 = some (some 56, .buildSlice 29 1 #[(0, (.tmp 55))], none) from by kernel_rfl) (by kernel_rfl) (by kernel_rfl) (show opAt (opsOf Tryz.f19 11) 9 = some (some 57, .call { callee := .builtin .append, args := [(.tmp 49), (.tmp 56)].toArray, argTypes := [29, 29].toArray }, none) from by kernel_rfl) (by kernel_rfl) (fun _ => by kernel_rfl) (show opAt (opsOf Tryz.f19 11) 10 = some (some 58, .fieldAddr 31 (.tmp 5) 2, none) from by kernel_rfl) (by kernel_rfl) (by kernel_rfl) (fun _ _ => by kernel_rfl) (show opAt (opsOf Tryz.f19 11) 11 = some (none, .store 29 (.tmp 58) (.tmp 57), none) from by kernel_rfl) (by kernel_rfl) (by kernel_rfl) H.out v3 LN.out (Nat.succ_le_of_lt (gs9.1 (heldC_at H.out (mt9 mh9))).1) W0.out (mt9 mh9) rfl (Nat.lt_succ_self _) B0'.out (fun q hq => far_two FAR.out (Nat.lt_succ_of_lt hbw) (Nat.lt_succ_self _) hq) ?_
     rintro v' w2 ⟨sa, sn, sc2, rfl⟩ hK hO hB hZ hR hG
     simp only [putAll, Act.put, List.setIfInBounds_toArray, List.set_cons_zero, List.set_cons_succ]
     have KA1 := heldC_at H.out mh9
     have hwa := (gs9.1 KA1).1
     have hKR := (gs9.1 KRW.out).1
     obtain ⟨X2, hu2⟩ := U.out.snocP HB.out v1 v2 v4 v5 HO.out hO hR (fun g hlo hg hne => hG g hg (by omega) hne) hZ HLO.out
     have U := hd9 hu2
     have KA := hd9 (show w2.heap[w.heap.size]? = some (.cells #[.int .i64 4, .slice ai items.length ci, .slice (some ⟨bp, offp, none⟩) n cp, .slice an nn cn, .slice ac cls.length cc, .slice al levels.length cl, .int .i64 code, .int .i64 env] 31 (0, 0)) from (hG _ hwa (by omega) (fun e => by have := FAR.out _ e; omega)).trans KA1)
     have KR := hd9 (show w2.heap[w.heap.size + 1]? = some (.cells #[.int .i64 0, .slice none 0 0, .slice none 0 0, .slice none 0 0, .slice none 0 0, .slice none 0 0, .int .i64 0, .int .i64 0] 31 (0, 0)) from (hG _ hKR (by omega) (fun e => by have := FAR.out _ e; omega)).trans KRW.out)
     have KB := hd9 (show w2.heap[b]? = some (.cells #[.int .i64 4, .slice none 0 0, .slice sa sn sc2, vn, .slice none 0 0, .slice none 0 0, .int .i64 0, .int .i64 0] 31 (0, 0)) from hK)
     have BW := hd9 hB
     clear hu2 hK hO hB hR hG hZ H FAR LN KA1 hKR hwa v1 v2 v3 v4 v5 HO HB HLO
     obtain ⟨a0, a1, a2, a3, a4, a5, a6, a7⟩ := vec8 KA.out
     go_wp2
     go_roundw
     case rel => first | exact ⟨k + 1, _, vn, X2, by omega, by go_num, BW.out, KA.out, KR.out, KB.out, by rw [NXI.out, e0]; rw [e1] at U; exact U.out⟩ | ((repeat apply Exists.intro); exact ⟨⟨k + 1, _, vn, X2, by omega, by go_num, BW.out, KA.out, KR.out, KB.out, by rw [NXI.out, e0]; rw [e1] at U; exact U.out⟩, rfl⟩)
     case measure => simp [intOf]; omega
    ·have hqn : q < nn := by have := hnm h0; omega
     have hn0 : 0 < (nn : Int) := by omega
     have NXN := hd9 (PNk.out h0)
     obtain ⟨bn, offn, rfl, hbN, cn0⟩ := AN.out q w hqn (Below.refl _ _)
     have hbnw : bn < w.heap.size := Nat.lt_of_lt_of_le hbN hhi
     obtain ⟨s, hs⟩ : ∃ s, names.getD q ⟨#[]⟩ = s := ⟨_, rfl⟩
     rw [hs] at cn0 NXN
     clear hs
     have LN := hd9 (show (pkL noV (parts ++ [noV]) (idx.take k)).length ≤ 1048576 by have := LI.out k; omega)
     have FAR := hd9 U.out.pb.2
     have H := hd9 (show HeldC w wl ([(w.heap.size, 31, #[.int .i64 4, .slice ai items.length ci, .slice (some ⟨bp, offp, none⟩) n cp, .slice (some ⟨bn, offn, none⟩) nn cn, .slice ac cls.length cc, .slice al levels.length cl, .int .i64 code, .int .i64 env]), (b, 31, #[.int .i64 4, .slice none 0 0, vp, vn, .slice none 0 0, .slice none 0 0, .int .i64 0, .int .i64 0])]) from heldC_cons (heldC_cons ⟨BW.out, (fun _ h => by cases h)⟩ KB.out) KA.out)
     have KRW := KR
     go_upto_region 11 with (fail)
     clear a0 a1 a2 a3 a4 a5 a6 a7
     refine run_region (ops := (opsOf Tryz.f19 11)) (S := fun w' => HeldC w w' ([(w.heap.size, 31, #[.int .i64 4, .slice ai items.length ci, .slice (some ⟨bp, offp, none⟩) n cp, .slice (some ⟨bn, offn, none⟩) nn cn, .slice ac cls.length cc, .slice al levels.length cl, .int .i64 code, .int .i64 env]), (b, 31, #[.int .i64 4, .slice none 0 0, vp, vn, .slice none 0 0, .slice none 0 0, .int .i64 0, .int .i64 0])])) [(0, true), (1, true), (2, true), (3, true), (4, true), (5, true), (6, true), (7, false), (8, false), (9, false), (10, true), (11, false)] (by kernel_rfl) (by kernel_rfl) (by kernel_rfl) (by kernel_rfl) (by kernel_rfl) (fun _ _ _ _ _ h => h) (heldC_drew H.out) ?_
     have H := hd9 (heldC_drew H.out)
     have U := hd9 (U.out.keep (below_drew' (Below.refl _ _)))
     refine runC_partV (b := b) (by kernel_rfl) (show opAt (opsOf Tryz.f19 11) 0 = some (some 48, .fieldAddr 31 (.tmp 5) 2, none) from by kernel_rfl) (by kernel_rfl) (by kernel_rfl) (by kernel_rfl) ?_
     refine runC_cell (b := b) (j := 2) (v := vp) load_vecs (show opAt (opsOf Tryz.f19 11) 1 = some (some 49, .load 29 (.tmp 48), none) from by kernel_rfl) (by kernel_rfl) (by kernel_rfl) (by kernel_rfl) (mt9 mh9) rfl ?_
     refine runC_partV (b := w.heap.size) (by kernel_rfl) (show opAt (opsOf Tryz.f19 11) 2 = some (some 50, .fieldAddr 31 (.tmp 2) 2, none) from by kernel_rfl) (by kernel_rfl) (by kernel_rfl) (by kernel_rfl) ?_
     refine runC_cell (b := w.heap.size) (j := 2) (v := .slice (some ⟨bp, offp, none⟩) n cp) load_vecs (show opAt (opsOf Tryz.f19 11) 3 = some (some 51, .load 29 (.tmp 50), none) from by kernel_rfl) (by kernel_rfl) (by kernel_rfl) (by kernel_rfl) mh9 rfl ?_
     refine run_mov (v := .int .i64 ((q : Int))) (show opAt (opsOf Tryz.f19 11) 4 = some (some 52, .move (.tmp 7), none) from by kernel_rfl) (by kernel_rfl) (by kernel_rfl) (by kernel_rfl) ?_
     refine run_idx8 (n := n) (c := cp) (b := bp) (off := offp) (k := q) (show opAt (opsOf Tryz.f19 11) 5 = some (some 53, .indexAddr 29 (.tmp 51) (.tmp 52), none) from by kernel_rfl) (by kernel_rfl) (by kernel_rfl) (by kernel_rfl) (by kernel_rfl) hq ?_
     refine runC_oldV (b := bp) (j := offp + q * 8) (show opAt (opsOf Tryz.f19 11) 6 = some (some 54, .load 31 (.tmp 53), none) from by kernel_rfl) (by kernel_rfl) (by kernel_rfl) (by kernel_rfl) hbpw p0 p1 p2 p3 p4 p5 p6 p7 ?_
     refine run_call (args := [.agg #[u0, u1, u2, u3, u4, u5, u6, u7]]) (show opAt (opsOf Tryz.f19 11) 7 = some (some 55, .call { callee := .value (.func 41), args := [(.tmp 54)].toArray, argTypes := [31].toArray }, none) from by kernel_rfl) (by kernel_rfl) (by kernel_rfl) (by kernel_rfl) (by kernel_rfl) ?_
     refine (CC.out _ H.out.1).mono ?_
     have HLO := hd9 (Nat.succ_le_of_lt (gs9.1 (heldC_at H.out (mt9 mh9))).1)
     rintro en rv1 ⟨y, rfl, ho, hb⟩
     obtain ⟨yk, ya1, yn1, ym1, ya2, yn2, ym2, ya3, yn3, ym3, ya4, yn4, ym4, ya5, yn5, ym5, yc, ye, rfl⟩ := ho.agg
     refine ⟨_, rfl, heldC_call H.out hb, ?_⟩
     have HO := hd9 ho
     have H := hd9 (heldC_call H.out hb)
     have HB := hd9 hb
     have KRW := hd9 (blk_below hb KRW.out)
     obtain ⟨vals, Fs, v1, v2, v3, v4, v5⟩ := (U.out.below hb).p.ex
     clear ho hb
     refine tail_vec3 (c0 := .int .i64 yk) (c1 := .slice ya1 yn1 ym1) (c2 := .slice ya2 yn2 ym2) (c3 := .slice ya3 yn3 ym3) (c4 := .slice ya4 yn4 ym4) (c5 := .slice ya5 yn5 ym5) (c6 := .int .i64 yc) (c7 := .int .i64 ye) (by intro u hu; simp only [List.mem_cons, List.not_mem_nil, or_false] at hu; rcases hu with rfl | rfl | rfl | rfl | rfl | rfl | rfl | rfl <;> rfl) (show opAt (opsOf Tryz.f19 11) 8 = some (some 56, .buildSlice 29 1 #[(0, (.tmp 55))], none) from by kernel_rfl) (by kernel_rfl) (by kernel_rfl) (show opAt (opsOf Tryz.f19 11) 9 = some (some 57, .call { callee := .builtin .append, args := [(.tmp 49), (.tmp 56)].toArray, argTypes := [29, 29].toArray }, none) from by kernel_rfl) (by kernel_rfl) (fun _ => by kernel_rfl) (show opAt (opsOf Tryz.f19 11) 10 = some (some 58, .fieldAddr 31 (.tmp 5) 2, none) from by kernel_rfl) (by kernel_rfl) (by kernel_rfl) (fun _ _ => by kernel_rfl) (show opAt (opsOf Tryz.f19 11) 11 = some (none, .store 29 (.tmp 58) (.tmp 57), none) from by kernel_rfl) (by kernel_rfl) (by kernel_rfl) H.out v3 LN.out (Nat.succ_le_of_lt (gs9.1 (heldC_at H.out (mt9 mh9))).1) W0.out (mt9 mh9) rfl (Nat.lt_succ_self _) B0'.out (fun q hq => far_two FAR.out (Nat.lt_succ_of_lt hbw) (Nat.lt_succ_self _) hq) ?_
     rintro v' w2 ⟨sa, sn, sc2, rfl⟩ hK hO hB hZ hR hG
     simp only [putAll, Act.put, List.setIfInBounds_toArray, List.set_cons_zero, List.set_cons_succ]
     have KA1 := heldC_at H.out mh9
     have hwa := (gs9.1 KA1).1
     have hKR := (gs9.1 KRW.out).1
     obtain ⟨X2, hu2⟩ := U.out.snocP HB.out v1 v2 v4 v5 HO.out hO hR (fun g hlo hg hne => hG g hg (by omega) hne) hZ HLO.out
     have U := hd9 hu2
     have KA := hd9 (show w2.heap[w.heap.size]? = some (.cells #[.int .i64 4, .slice ai items.length ci, .slice (some ⟨bp, offp, none⟩) n cp, .slice (some ⟨bn, offn, none⟩) nn cn, .slice ac cls.length cc, .slice al levels.length cl, .int .i64 code, .int .i64 env] 31 (0, 0)) from (hG _ hwa (by omega) (fun e => by have := FAR.out _ e; omega)).trans KA1)
     have KR := hd9 (show w2.heap[w.heap.size + 1]? = some (.cells #[.int .i64 0, .slice none 0 0, .slice none 0 0, .slice none 0 0, .slice none 0 0, .slice none 0 0, .int .i64 0, .int .i64 0] 31 (0, 0)) from (hG _ hKR (by omega) (fun e => by have := FAR.out _ e; omega)).trans KRW.out)
     have KB := hd9 (show w2.heap[b]? = some (.cells #[.int .i64 4, .slice none 0 0, .slice sa sn sc2, vn, .slice none 0 0, .slice none 0 0, .int .i64 0, .int .i64 0] 31 (0, 0)) from hK)
     have BW := hd9 hB
     clear hu2 hK hO hB hR hG hZ H FAR LN KA1 hKR hwa v1 v2 v3 v4 v5 HO HB HLO
     obtain ⟨a0, a1, a2, a3, a4, a5, a6, a7⟩ := vec8 KA.out
     have LN := hd9 (show (pkL ⟨#[]⟩ (misN names) (idx.take k)).length ≤ 1048576 by have := LM.out k; omega)
     have FAR := hd9 (fun g hg => (U.out.n.lt g hg).1)
     have H := hd9 (show HeldC w w2 ([(w.heap.size, 31, #[.int .i64 4, .slice ai items.length ci, .slice (some ⟨bp, offp, none⟩) n cp, .slice (some ⟨bn, offn, none⟩) nn cn, .slice ac cls.length cc, .slice al levels.length cl, .int .i64 code, .int .i64 env]), (b, 31, #[.int .i64 4, .slice none 0 0, .slice sa sn sc2, vn, .slice none 0 0, .slice none 0 0, .int .i64 0, .int .i64 0])]) from heldC_cons (heldC_cons ⟨BW.out, (fun _ h => by cases h)⟩ KB.out) KA.out)
     have hKR := (gs9.1 KR.out).1
     have KRW := KR
     go_upto_region 18 with (fail)
     clear a0 a1 a2 a3 a4 a5 a6 a7
     refine run_region (ops := (opsOf Tryz.f19 18)) (S := fun w' => HeldC w w' ([(w.heap.size, 31, #[.int .i64 4, .slice ai items.length ci, .slice (some ⟨bp, offp, none⟩) n cp, .slice (some ⟨bn, offn, none⟩) nn cn, .slice ac cls.length cc, .slice al levels.length cl, .int .i64 code, .int .i64 env]), (b, 31, #[.int .i64 4, .slice none 0 0, (.slice sa sn sc2), vn, .slice none 0 0, .slice none 0 0, .int .i64 0, .int .i64 0])])) [(0, true), (1, true), (2, true), (3, true), (4, true), (5, true), (6, true), (7, false), (8, false), (9, true), (10, false)] (by kernel_rfl) (by kernel_rfl) (by kernel_rfl) (by kernel_rfl) (by kernel_rfl) (fun _ _ _ _ _ h => h) (heldC_drew H.out) ?_
     have H := hd9 (heldC_drew H.out)
     have U := hd9 (U.out.keep (below_drew' (Below.refl _ _)))
     refine runC_partV (b := b) (by kernel_rfl) (show opAt (opsOf Tryz.f19 18) 0 = some (some 92, .fieldAddr 31 (.tmp 5) 3, none) from by kernel_rfl) (by kernel_rfl) (by kernel_rfl) (by kernel_rfl) ?_
     refine runC_cell (b := b) (j := 3) (v := vn) load_strs (show opAt (opsOf Tryz.f19 18) 1 = some (some 93, .load 24 (.tmp 92), none) from by kernel_rfl) (by kernel_rfl) (by kernel_rfl) (by kernel_rfl) (mt9 mh9) rfl ?_
     refine runC_partV (b := w.heap.size) (by kernel_rfl) (show opAt (opsOf Tryz.f19 18) 2 = some (some 94, .fieldAddr 31 (.tmp 2) 3, none) from by kernel_rfl) (by kernel_rfl) (by kernel_rfl) (by kernel_rfl) ?_
     refine runC_cell (b := w.heap.size) (j := 3) (v := .slice (some ⟨bn, offn, none⟩) nn cn) load_strs (show opAt (opsOf Tryz.f19 18) 3 = some (some 95, .load 24 (.tmp 94), none) from by kernel_rfl) (by kernel_rfl) (by kernel_rfl) (by kernel_rfl) mh9 rfl ?_
     refine run_mov (v := .int .i64 ((q : Int))) (show opAt (opsOf Tryz.f19 18) 4 = some (some 96, .move (.tmp 7), none) from by kernel_rfl) (by kernel_rfl) (by kernel_rfl) (by kernel_rfl) ?_
     refine run_idx1 (n := nn) (c := cn) (b := bn) (off := offn) (k := q) (show opAt (opsOf Tryz.f19 18) 5 = some (some 97, .indexAddr 24 (.tmp 95) (.tmp 96), none) from by kernel_rfl) (by kernel_rfl) (by kernel_rfl) (by kernel_rfl) (by kernel_rfl) hqn Tryz.underlying24 (by kernel_rfl) infoStr ?_
     refine runC_old (b := bn) (j := offn + q) (v := .string s) load_text (show opAt (opsOf Tryz.f19 18) 6 = some (some 98, .load 9 (.tmp 97), none) from by kernel_rfl) (by kernel_rfl) (by kernel_rfl) (by kernel_rfl) hbnw cn0 ?_
     refine tail_txs3 s (show opAt (opsOf Tryz.f19 18) 7 = some (some 99, .buildSlice 24 1 #[(0, (.tmp 98))], none) from by kernel_rfl) (by kernel_rfl) (by kernel_rfl) (show opAt (opsOf Tryz.f19 18) 8 = some (some 100, .call { callee := .builtin .append, args := [(.tmp 93), (.tmp 99)].toArray, argTypes := [24, 24].toArray }, none) from by kernel_rfl) (by kernel_rfl) (fun _ => by kernel_rfl) (show opAt (opsOf Tryz.f19 18) 9 = some (some 101, .fieldAddr 31 (.tmp 5) 3, none) from by kernel_rfl) (by kernel_rfl) (by kernel_rfl) (fun _ _ => by kernel_rfl) (show opAt (opsOf Tryz.f19 18) 10 = some (none, .store 24 (.tmp 101) (.tmp 100), none) from by kernel_rfl) (by kernel_rfl) (by kernel_rfl) H.out U.out.n LN.out (Nat.succ_le_of_lt (gs9.1 (heldC_at H.out (mt9 mh9))).1) W0.out (mt9 mh9) rfl (Nat.lt_succ_self _) B0'.out (fun q hq => far_two FAR.out (Nat.lt_succ_of_lt hbw) (Nat.lt_succ_self _) hq) ?_
     rintro v' w3 ⟨sa3, sn3, sc3, rfl⟩ hK hO hB hZ hR hG
     simp only [putAll, Act.put, List.setIfInBounds_toArray, List.set_cons_zero, List.set_cons_succ]
     have KA1 := heldC_at H.out mh9
     have hwa := (gs9.1 KA1).1
     have U := hd9 (U.out.setN hO hR (fun g hlo hg hne => hG g hg (by omega) hne) hZ)
     have KA := hd9 (show w3.heap[w.heap.size]? = some (.cells #[.int .i64 4, .slice ai items.length ci, .slice (some ⟨bp, offp, none⟩) n cp, .slice (some ⟨bn, offn, none⟩) nn cn, .slice ac cls.length cc, .slice al levels.length cl, .int .i64 code, .int .i64 env] 31 (0, 0)) from (hG _ hwa (by omega) (fun e => by have := FAR.out _ e; omega)).trans KA1)
     have KR := hd9 (show w3.heap[w.heap.size + 1]? = some (.cells #[.int .i64 0, .slice none 0 0, .slice none 0 0, .slice none 0 0, .slice none 0 0, .slice none 0 0, .int .i64 0, .int .i64 0] 31 (0, 0)) from (hG _ hKR (by omega) (fun e => by have := FAR.out _ e; omega)).trans KRW.out)
     have KB := hd9 (show w3.heap[b]? = some (.cells #[.int .i64 4, .slice none 0 0, .slice sa sn sc2, .slice sa3 sn3 sc3, .slice none 0 0, .slice none 0 0, .int .i64 0, .int .i64 0] 31 (0, 0)) from hK)
     have BW := hd9 hB
     clear hK hO hB hR hG hZ H FAR LN KA1 hwa
     go_wp2
     go_roundw
     case rel => first | exact ⟨k + 1, _, _, X2, by omega, by go_num, BW.out, KA.out, KR.out, KB.out, by rw [NXI.out, NXN.out]; exact U.out⟩ | ((repeat apply Exists.intro); exact ⟨⟨k + 1, _, _, X2, by omega, by go_num, BW.out, KA.out, KR.out, KB.out, by rw [NXI.out, NXN.out]; exact U.out⟩, rfl⟩)
     case measure => simp [intOf]; omega
   ·have hq := hq.symm
    subst hq
    have NXI := hd9 (by rw [XI1.out] at NXI; exact NXI.out)
    have PNk := hd9 (fun h => by have e := PNk.out h; rw [XN1.out h] at e; exact e)
    clear INk
    have IY := hd9 (by have h := l1In_any (z - 1) 0 ((n : Int) - 1); intro W; have h := h W; rw [decide_eq_false (by omega)] at h; exact h : ∀ W : World, Calls Tryz.prog 38 #[.int .i64 (z - 1), .int .i64 0, .int .i64 ((n : Int) - 1)] W fun e w' => e = .returned (.bool false) ∧ W = w')
    obtain ⟨a0, a1, a2, a3, a4, a5, a6, a7⟩ := vec8 KA.out
    go_wp2_with fail
    with_reducible refine (LE.out _).mono ?_
    rintro e wl ⟨rfl, b'⟩
    have BW := hd9 (below_then BW.out b')
    have KA := hd9 (blk_below b' KA.out)
    have KR := hd9 (blk_below b' KR.out)
    have KB := hd9 (blk_below b' KB.out)
    have U := hd9 (U.out.below b')
    clear b' a0 a1 a2 a3 a4 a5 a6 a7
    go_wp2_with fail
    with_reducible refine (IY.out _).mono ?_
    rintro e w' ⟨rfl, rfl⟩
    obtain ⟨a0, a1, a2, a3, a4, a5, a6, a7⟩ := vec8 KA.out
    have hbl := (gs9.1 KB.out).1
    by_cases h0 : nn = 0
    ·have e0 := P0.out h0 (k + 1)
     have e1 := P0.out h0 k
     have hn0 : (nn : Int) ≤ 0 := by omega
     have H0 := hd9 h0
     clear h0
     have LN := hd9 (show (pkL noV (parts ++ [noV]) (idx.take k)).length ≤ 1048576 by have := LI.out k; omega)
     have FAR := hd9 U.out.pb.2
     have H := hd9 (show HeldC w wl ([(w.heap.size, 31, #[.int .i64 4, .slice ai items.length ci, .slice ap n cp, .slice an nn cn, .slice ac cls.length cc, .slice al levels.length cl, .int .i64 code, .int .i64 env]), (b, 31, #[.int .i64 4, .slice none 0 0, vp, vn, .slice none 0 0, .slice none 0 0, .int .i64 0, .int .i64 0])]) from heldC_cons (heldC_cons ⟨BW.out, (fun _ h => by cases h)⟩ KB.out) KA.out)
     have KRW := KR
     have HLO := hd9 (Nat.succ_le_of_lt (gs9.1 KB.out).1)
     have HB := hd9 (Below.refl wl.heap.size wl)
     obtain ⟨vals, Fs, v1, v2, v3, v4, v5⟩ := U.out.p.ex
     go_upto_region 13 with (fail)
     clear a0 a1 a2 a3 a4 a5 a6 a7
     refine run_region_seq (ops := (opsOf Tryz.f19 13)) (S := fun w' => HeldC w w' ([(w.heap.size, 31, #[.int .i64 4, .slice ai items.length ci, .slice ap n cp, .slice an nn cn, .slice ac cls.length cc, .slice al levels.length cl, .int .i64 code, .int .i64 env]), (b, 31, #[.int .i64 4, .slice none 0 0, vp, vn, .slice none 0 0, .slice none 0 0, .int .i64 0, .int .i64 0])])) [(0, true), (1, true), (2, true), (3, false), (4, false), (5, true), (6, false)] (by kernel_rfl) (by kernel_rfl) (by kernel_rfl) H.out ?_
     refine runC_partV (b := b) (by kernel_rfl) (show opAt (opsOf Tryz.f19 13) 0 = some (some 62, .fieldAddr 31 (.tmp 5) 2, none) from by kernel_rfl) (by kernel_rfl) (by kernel_rfl) (by kernel_rfl) ?_
     refine runC_cell (b := b) (j := 2) (v := vp) load_vecs (show opAt (opsOf Tryz.f19 13) 1 = some (some 63, .load 29 (.tmp 62), none) from by kernel_rfl) (by kernel_rfl) (by kernel_rfl) (by kernel_rfl) (mt9 mh9) rfl ?_
     refine bldV0Z (show opAt (opsOf Tryz.f19 13) 2 = some (some 64, .build 31 #[], none) from by kernel_rfl) (by kernel_rfl) (by kernel_rfl) ?_
     refine tail_vec3 (c0 := .int .i64 0) (c1 := .slice none 0 0) (c2 := .slice none 0 0) (c3 := .slice none 0 0) (c4 := .slice none 0 0) (c5 := .slice none 0 0) (c6 := .int .i64 0) (c7 := .int .i64 0) (by intro u hu; simp only [List.mem_cons, List.not_mem_nil, or_false] at hu; rcases hu with rfl | rfl | rfl | rfl | rfl | rfl | rfl | rfl <;> rfl) (show opAt (opsOf Tryz.f19 13) 3 = some (some 65, .buildSlice 29 1 #[(0, (.tmp 64))], none) from by kernel_rfl) (by kernel_rfl) (by kernel_rfl) (show opAt (opsOf Tryz.f19 13) 4 = some (some 66, .call { callee := .builtin .append, args := [(.tmp 63), (.tmp 65)].toArray, argTypes := [29, 29].toArray }, none) from by kernel_rfl) (by kernel_rfl) (fun _ => by kernel_rfl) (show opAt (opsOf Tryz.f19 13) 5 = some (some 67, .fieldAddr 31 (.tmp 5) 2, none) from by kernel_rfl) (by kernel_rfl) (by kernel_rfl) (fun _ _ => by kernel_rfl) (show opAt (opsOf Tryz.f19 13) 6 = some (none, .store 29 (.tmp 67) (.tmp 66), none) from by kernel_rfl) (by kernel_rfl) (by kernel_rfl) H.out v3 LN.out (Nat.succ_le_of_lt (gs9.1 (heldC_at H.out (mt9 mh9))).1) W0.out (mt9 mh9) rfl (Nat.lt_succ_self _) B0'.out (fun q hq => far_two FAR.out (Nat.lt_succ_of_lt hbw) (Nat.lt_succ_self _) hq) ?_
     rintro v' w2 ⟨sa, sn, sc2, rfl⟩ hK hO hB hZ hR hG
     simp only [putAll, Act.put, List.setIfInBounds_toArray, List.set_cons_zero, List.set_cons_succ]
     have KA1 := heldC_at H.out mh9
     have hwa := (gs9.1 KA1).1
     have hKR := (gs9.1 KRW.out).1
     obtain ⟨X2, hu2⟩ := U.out.snocP HB.out v1 v2 v4 v5 (own_zeroD _ _ _ _) hO hR (fun g hlo hg hne => hG g hg (by omega) hne) hZ HLO.out
     have U := hd9 hu2
     have KA := hd9 (show w2.heap[w.heap.size]? = some (.cells #[.int .i64 4, .slice ai items.length ci, .slice ap n cp, .slice an nn cn, .slice ac cls.length cc, .slice al levels.length cl, .int .i64 code, .int .i64 env] 31 (0, 0)) from (hG _ hwa (by omega) (fun e => by have := FAR.out _ e; omega)).trans KA1)
     have KR := hd9 (show w2.heap[w.heap.size + 1]? = some (.cells #[.int .i64 0, .slice none 0 0, .slice none 0 0, .slice none 0 0, .slice none 0 0, .slice none 0 0, .int .i64 0, .int .i64 0] 31 (0, 0)) from (hG _ hKR (by omega) (fun e => by have := FAR.out _ e; omega)).trans KRW.out)
     have KB := hd9 (show w2.heap[b]? = some (.cells #[.int .i64 4, .slice none 0 0, .slice sa sn sc2, vn, .slice none 0 0, .slice none 0 0, .int .i64 0, .int .i64 0] 31 (0, 0)) from hK)
     have BW := hd9 hB
     clear hu2 hK hO hB hR hG hZ H FAR LN KA1 hKR hwa v1 v2 v3 v4 v5 HB HLO
     obtain ⟨a0, a1, a2, a3, a4, a5, a6, a7⟩ := vec8 KA.out
     go_wp2
     go_roundw
     case rel => first | exact ⟨k + 1, _, vn, X2, by omega, by go_num, BW.out, KA.out, KR.out, KB.out, by rw [NXI.out, e0]; rw [e1] at U; exact U.out⟩ | ((repeat apply Exists.intro); exact ⟨⟨k + 1, _, vn, X2, by omega, by go_num, BW.out, KA.out, KR.out, KB.out, by rw [NXI.out, e0]; rw [e1] at U; exact U.out⟩, rfl⟩)
     case measure => simp [intOf]; omega
    ·have hn0 : 0 < (nn : Int) := by omega
     have NXN := hd9 (PNk.out h0)
     have LN := hd9 (show (pkL noV (parts ++ [noV]) (idx.take k)).length ≤ 1048576 by have := LI.out k; omega)
     have FAR := hd9 U.out.pb.2
     have H := hd9 (show HeldC w wl ([(w.heap.size, 31, #[.int .i64 4, .slice ai items.length ci, .slice ap n cp, .slice an nn cn, .slice ac cls.length cc, .slice al levels.length cl, .int .i64 code, .int .i64 env]), (b, 31, #[.int .i64 4, .slice none 0 0, vp, vn, .slice none 0 0, .slice none 0 0, .int .i64 0, .int .i64 0])]) from heldC_cons (heldC_cons ⟨BW.out, (fun _ h => by cases h)⟩ KB.out) KA.out)
     have KRW := KR
     have HLO := hd9 (Nat.succ_le_of_lt (gs9.1 KB.out).1)
     have HB := hd9 (Below.refl wl.heap.size wl)
     obtain ⟨vals, Fs, v1, v2, v3, v4, v5⟩ := U.out.p.ex
     go_upto_region 13 with (fail)
     clear a0 a1 a2 a3 a4 a5 a6 a7
     refine run_region_seq (ops := (opsOf Tryz.f19 13)) (S := fun w' => HeldC w w' ([(w.heap.size, 31, #[.int .i64 4, .slice ai items.length ci, .slice ap n cp, .slice an nn cn, .slice ac cls.length cc, .slice al levels.length cl, .int .i64 code, .int .i64 env]), (b, 31, #[.int .i64 4, .slice none 0 0, vp, vn, .slice none 0 0, .slice none 0 0, .int .i64 0, .int .i64 0])])) [(0, true), (1, true), (2, true), (3, false), (4, false), (5, true), (6, false)] (by kernel_rfl) (by kernel_rfl) (by kernel_rfl) H.out ?_
     refine runC_partV (b := b) (by kernel_rfl) (show opAt (opsOf Tryz.f19 13) 0 = some (some 62, .fieldAddr 31 (.tmp 5) 2, none) from by kernel_rfl) (by kernel_rfl) (by kernel_rfl) (by kernel_rfl) ?_
     refine runC_cell (b := b) (j := 2) (v := vp) load_vecs (show opAt (opsOf Tryz.f19 13) 1 = some (some 63, .load 29 (.tmp 62), none) from by kernel_rfl) (by kernel_rfl) (by kernel_rfl) (by kernel_rfl) (mt9 mh9) rfl ?_
     refine bldV0Z (show opAt (opsOf Tryz.f19 13) 2 = some (some 64, .build 31 #[], none) from by kernel_rfl) (by kernel_rfl) (by kernel_rfl) ?_
     refine tail_vec3 (c0 := .int .i64 0) (c1 := .slice none 0 0) (c2 := .slice none 0 0) (c3 := .slice none 0 0) (c4 := .slice none 0 0) (c5 := .slice none 0 0) (c6 := .int .i64 0) (c7 := .int .i64 0) (by intro u hu; simp only [List.mem_cons, List.not_mem_nil, or_false] at hu; rcases hu with rfl | rfl | rfl | rfl | rfl | rfl | rfl | rfl <;> rfl) (show opAt (opsOf Tryz.f19 13) 3 = some (some 65, .buildSlice 29 1 #[(0, (.tmp 64))], none) from by kernel_rfl) (by kernel_rfl) (by kernel_rfl) (show opAt (opsOf Tryz.f19 13) 4 = some (some 66, .call { callee := .builtin .append, args := [(.tmp 63), (.tmp 65)].toArray, argTypes := [29, 29].toArray }, none) from by kernel_rfl) (by kernel_rfl) (fun _ => by kernel_rfl) (show opAt (opsOf Tryz.f19 13) 5 = some (some 67, .fieldAddr 31 (.tmp 5) 2, none) from by kernel_rfl) (by kernel_rfl) (by kernel_rfl) (fun _ _ => by kernel_rfl) (show opAt (opsOf Tryz.f19 13) 6 = some (none, .store 29 (.tmp 67) (.tmp 66), none) from by kernel_rfl) (by kernel_rfl) (by kernel_rfl) H.out v3 LN.out (Nat.succ_le_of_lt (gs9.1 (heldC_at H.out (mt9 mh9))).1) W0.out (mt9 mh9) rfl (Nat.lt_succ_self _) B0'.out (fun q hq => far_two FAR.out (Nat.lt_succ_of_lt hbw) (Nat.lt_succ_self _) hq) ?_
     rintro v' w2 ⟨sa, sn, sc2, rfl⟩ hK hO hB hZ hR hG
     simp only [putAll, Act.put, List.setIfInBounds_toArray, List.set_cons_zero, List.set_cons_succ]
     have KA1 := heldC_at H.out mh9
     have hwa := (gs9.1 KA1).1
     have hKR := (gs9.1 KRW.out).1
     obtain ⟨X2, hu2⟩ := U.out.snocP HB.out v1 v2 v4 v5 (own_zeroD _ _ _ _) hO hR (fun g hlo hg hne => hG g hg (by omega) hne) hZ HLO.out
     have U := hd9 hu2
     have KA := hd9 (show w2.heap[w.heap.size]? = some (.cells #[.int .i64 4, .slice ai items.length ci, .slice ap n cp, .slice an nn cn, .slice ac cls.length cc, .slice al levels.length cl, .int .i64 code, .int .i64 env] 31 (0, 0)) from (hG _ hwa (by omega) (fun e => by have := FAR.out _ e; omega)).trans KA1)
     have KR := hd9 (show w2.heap[w.heap.size + 1]? = some (.cells #[.int .i64 0, .slice none 0 0, .slice none 0 0, .slice none 0 0, .slice none 0 0, .slice none 0 0, .int .i64 0, .int .i64 0] 31 (0, 0)) from (hG _ hKR (by omega) (fun e => by have := FAR.out _ e; omega)).trans KRW.out)
     have KB := hd9 (show w2.heap[b]? = some (.cells #[.int .i64 4, .slice none 0 0, .slice sa sn sc2, vn, .slice none 0 0, .slice none 0 0, .int .i64 0, .int .i64 0] 31 (0, 0)) from hK)
     have BW := hd9 hB
     clear hu2 hK hO hB hR hG hZ H FAR LN KA1 hKR hwa v1 v2 v3 v4 v5 HB HLO
     obtain ⟨a0, a1, a2, a3, a4, a5, a6, a7⟩ := vec8 KA.out
     have LN := hd9 (show (pkL ⟨#[]⟩ (misN names) (idx.take k)).length ≤ 1048576 by have := LM.out k; omega)
     have FAR := hd9 (fun g hg => (U.out.n.lt g hg).1)
     have H := hd9 (show HeldC w w2 ([(w.heap.size, 31, #[.int .i64 4, .slice ai items.length ci, .slice ap n cp, .slice an nn cn, .slice ac cls.length cc, .slice al levels.length cl, .int .i64 code, .int .i64 env]), (b, 31, #[.int .i64 4, .slice none 0 0, .slice sa sn sc2, vn, .slice none 0 0, .slice none 0 0, .int .i64 0, .int .i64 0])]) from heldC_cons (heldC_cons ⟨BW.out, (fun _ h => by cases h)⟩ KB.out) KA.out)
     have hKR := (gs9.1 KR.out).1
     have KRW := KR
     go_upto_region 20 with (fail)
     clear a0 a1 a2 a3 a4 a5 a6 a7
     refine run_region_seq (ops := (opsOf Tryz.f19 20)) (S := fun w' => HeldC w w' ([(w.heap.size, 31, #[.int .i64 4, .slice ai items.length ci, .slice ap n cp, .slice an nn cn, .slice ac cls.length cc, .slice al levels.length cl, .int .i64 code, .int .i64 env]), (b, 31, #[.int .i64 4, .slice none 0 0, (.slice sa sn sc2), vn, .slice none 0 0, .slice none 0 0, .int .i64 0, .int .i64 0])])) [(0, true), (1, true), (2, false), (3, false), (4, true), (5, false)] (by kernel_rfl) (by kernel_rfl) (by kernel_rfl) H.out ?_
     refine runC_partV (b := b) (by kernel_rfl) (show opAt (opsOf Tryz.f19 20) 0 = some (some 106, .fieldAddr 31 (.tmp 5) 3, none) from by kernel_rfl) (by kernel_rfl) (by kernel_rfl) (by kernel_rfl) ?_
     refine runC_cell (b := b) (j := 3) (v := vn) load_strs (show opAt (opsOf Tryz.f19 20) 1 = some (some 107, .load 24 (.tmp 106), none) from by kernel_rfl) (by kernel_rfl) (by kernel_rfl) (by kernel_rfl) (mt9 mh9) rfl ?_
     refine tail_txs3 naB (show opAt (opsOf Tryz.f19 20) 2 = some (some 108, .buildSlice 24 1 #[(0, (.const (.string ⟨#[60, 78, 65, 62]⟩)))], none) from by kernel_rfl) (by kernel_rfl) (by kernel_rfl) (show opAt (opsOf Tryz.f19 20) 3 = some (some 109, .call { callee := .builtin .append, args := [(.tmp 107), (.tmp 108)].toArray, argTypes := [24, 24].toArray }, none) from by kernel_rfl) (by kernel_rfl) (fun _ => by kernel_rfl) (show opAt (opsOf Tryz.f19 20) 4 = some (some 110, .fieldAddr 31 (.tmp 5) 3, none) from by kernel_rfl) (by kernel_rfl) (by kernel_rfl) (fun _ _ => by kernel_rfl) (show opAt (opsOf Tryz.f19 20) 5 = some (none, .store 24 (.tmp 110) (.tmp 109), none) from by kernel_rfl) (by kernel_rfl) (by kernel_rfl) H.out U.out.n LN.out (Nat.succ_le_of_lt (gs9.1 (heldC_at H.out (mt9 mh9))).1) W0.out (mt9 mh9) rfl (Nat.lt_succ_self _) B0'.out (fun q hq => far_two FAR.out (Nat.lt_succ_of_lt hbw) (Nat.lt_succ_self _) hq) ?_
     rintro v' w3 ⟨sa3, sn3, sc3, rfl⟩ hK hO hB hZ hR hG
     simp only [putAll, Act.put, List.setIfInBounds_toArray, List.set_cons_zero, List.set_cons_succ]
     have KA1 := heldC_at H.out mh9
     have hwa := (gs9.1 KA1).1
     have U := hd9 (U.out.setN hO hR (fun g hlo hg hne => hG g hg (by omega) hne) hZ)
     have KA := hd9 (show w3.heap[w.heap.size]? = some (.cells #[.int .i64 4, .slice ai items.length ci, .slice ap n cp, .slice an nn cn, .slice ac cls.length cc, .slice al levels.length cl, .int .i64 code, .int .i64 env] 31 (0, 0)) from (hG _ hwa (by omega) (fun e => by have := FAR.out _ e; omega)).trans KA1)
     have KR := hd9 (show w3.heap[w.heap.size + 1]? = some (.cells #[.int .i64 0, .slice none 0 0, .slice none 0 0, .slice none 0 0, .slice none 0 0, .slice none 0 0, .int .i64 0, .int .i64 0] 31 (0, 0)) from (hG _ hKR (by omega) (fun e => by have := FAR.out _ e; omega)).trans KRW.out)
     have KB := hd9 (show w3.heap[b]? = some (.cells #[.int .i64 4, .slice none 0 0, .slice sa sn sc2, .slice sa3 sn3 sc3, .slice none 0 0, .slice none 0 0, .int .i64 0, .int .i64 0] 31 (0, 0)) from hK)
     have BW := hd9 hB
     clear hK hO hB hR hG hZ H FAR LN KA1 hwa
     go_wp2
     go_roundw
     case rel => first | exact ⟨k + 1, _, _, X2, by omega, by go_num, BW.out, KA.out, KR.out, KB.out, by rw [NXI.out, NXN.out]; exact U.out⟩ | ((repeat apply Exists.intro); exact ⟨⟨k + 1, _, _, X2, by omega, by go_num, BW.out, KA.out, KR.out, KB.out, by rw [NXI.out, NXN.out]; exact U.out⟩, rfl⟩)
     case measure => simp [intOf]; omega
  ·obtain rfl : k = m := by omega
   obtain ⟨xs, hxs⟩ := U.out.p.row
   obtain ⟨sp, qp, rfl⟩ := row_form hxs
   obtain ⟨sn, qn, Fn, rfl, hot, _, hrt, _⟩ := txs_of_row U.out.n
   have CLN := hd9 (fun (W : World) (hb : Below wr.heap.size wr W) => specCleanN 4 0 0 none sp sn none none 0 0 (pkL noV (parts ++ [noV]) (idx.take k)).length qp qn 0 0 0 0 (pkL ⟨#[]⟩ (misN names) (idx.take k)) (b + 1) wr.heap.size W ((hot.at_ hrt).below hb (Nat.le_refl _)) hb.size (Nat.le_trans (LM.out k) hn))
   clear hot hrt hxs
   obtain ⟨k0, k1, k2, k3, k4, k5, k6, k7⟩ := vec8 KB.out
   have hKR := (gs9.1 KR.out).1
   go_wp2_with fail
   refine (CLN.out _ (Below.refl _ _)).mono ?_
   rintro e w5 ⟨b', hor⟩
   have BW := hd9 (below_then BW.out b')
   have KR := hd9 (blk_below b' KR.out)
   have O := hd9 ((U.out.below b').own 4)
   have hL1 : w.heap.size + 1 < b + 1 := by omega
   clear b' k0 k1 k2 k3 k4 k5 k6 k7
   obtain ⟨z0, z1, z2, z3, z4, z5, z6, z7⟩ := vec8 KR.out
   obtain ⟨f0, f1, f2, f3, f4, f5, f6, f7⟩ := free8 KR.out
   rcases hor with ⟨hex, rfl⟩ | ⟨hem, g, hg, rfl⟩
   ·have EN := hd9 (clnN_yes (l := pkL ⟨#[]⟩ (misN names) (idx.take k)) (by obtain ⟨i, h1, h2⟩ := hex; exact ⟨i, h1, fun h => h2 (empty_of_size h)⟩))
    rw [EN.out] at EV
    rw [← EV.out] at O
    clear EV EN hex
    go_wp2
    exact vec_end rfl rfl rfl KR.out ⟨_, rfl, (O.out.put8 hL1 _ _ _ _ _ _ _ _).wide (by omega) (by rw [put8_size]; exact Nat.le_refl _), put8_below BW.out (Nat.le_succ _)⟩
   ·have EN := hd9 (clnN_no (l := pkL ⟨#[]⟩ (misN names) (idx.take k)) (fun ⟨i, h1, h2⟩ => h2 (show (txtS _ i).size = 0 by rw [hem i h1]; rfl)))
    rw [EN.out] at EV
    have O := hd9 (O.out.noNames (some ⟨g, 0, none⟩) 0)
    rw [← EV.out] at O
    clear EV EN hem hg
    go_wp2
    exact vec_end rfl rfl rfl KR.out ⟨_, rfl, (O.out.put8 hL1 _ _ _ _ _ _ _ _).wide (by omega) (by rw [put8_size]; exact Nat.le_refl _), put8_below BW.out (Nat.le_succ _)⟩
end Go.Proofs.YteoalkjngkcheaaGreat

/- SubsetOf: the reference. -/
namespace Go.Proofs.YteoalkjngkcheaaGreat
open Go.RowKit
set_option maxRecDepth 100000
set_option linter.unusedVariables false

theorem sb_atomic {kk : Int} {items : List It} {parts : List Vec} {names cls levels : List ByteArray} {code env : Int} (hv : ValidV (.mk kk items parts names cls levels code env)) (h4 : ¬ kk = 4) (h0 : ¬ kk = 0) (Z : List Int) : sbQ (.mk kk items parts names cls levels code env) Z = .mk kk (pkL noI (items ++ [noI]) (sbI (items.length + parts.length) Z)) [] (clnN (pkL ⟨#[]⟩ (misN names) (sbI (items.length + parts.length) Z))) (kpC levels cls) levels 0 0 := by
 have hf : FlatOk kk items parts.length names cls levels code env := hv.1.flat
 have hp : parts = [] := List.eq_nil_of_length_eq_zero (hf.h_noParts h4)
 show selV kk (misI kk items) (misP kk parts) (misN names) cls levels _ = _
 rw [misI_yes (fun e => e.elim h0 h4), misP_no h4, hp]
 rfl
theorem sb_list {items : List It} {parts : List Vec} {names cls levels : List ByteArray} {code env : Int} (hv : ValidV (.mk 4 items parts names cls levels code env)) (Z : List Int) : sbQ (.mk 4 items parts names cls levels code env) Z = .mk 4 [] (pkL noV (parts ++ [noV]) (sbI (items.length + parts.length) Z)) (clnN (pkL ⟨#[]⟩ (misN names) (sbI (items.length + parts.length) Z))) (kpC levels cls) levels 0 0 := by
 have hf : FlatOk 4 items parts.length names cls levels code env := hv.1.flat
 have hp : items = [] := List.eq_nil_of_length_eq_zero (hf.h_list rfl)
 show selV 4 (misI 4 items) (misP 4 parts) (misN names) cls levels _ = _
 rw [misI_no (.inr rfl), misP_yes rfl, hp]
 rfl
theorem valid_null {items : List It} {parts : List Vec} {names cls levels : List ByteArray} {code env : Int} (hv : ValidV (.mk 0 items parts names cls levels code env)) : Vec.mk 0 items parts names cls levels code env = noV := by
 have hf : FlatOk 0 items parts.length names cls levels code env := hv.1.flat
 have h1 := hf.h_null rfl
 have h2 := hf.h_noLevels (by decide)
 have h3 := hf.h_code (by decide)
 have h4 := hf.h_names
 unfold lenV at h4
 rw [if_neg (by decide)] at h4
 have e1 : items = [] := List.eq_nil_of_length_eq_zero (by omega)
 have e2 : parts = [] := List.eq_nil_of_length_eq_zero (by omega)
 have e3 : names = [] := List.eq_nil_of_length_eq_zero (by omega)
 have e4 : cls = [] := List.eq_nil_of_length_eq_zero h1.2
 have e5 : levels = [] := List.eq_nil_of_length_eq_zero h2
 rw [e1, e2, e3, e4, e5, h3.1, h3.2]; rfl
theorem sb_null {v : Vec} (hv : ValidV v) (h0 : kindV v = 0) (Z : List Int) : sbQ v Z = noV ∧ ValidV noV := by
 obtain ⟨kk, items, parts, names, cls, levels, code, env⟩ := v
 have h0 : kk = 0 := h0
 subst h0
 have e := valid_null hv
 rw [e] at hv ⊢
 refine ⟨?_, hv⟩
 show selV 0 (misI 0 []) (misP 0 []) (misN []) [] [] _ = noV
 rw [misI_no (.inl rfl), misP_no (by decide)]
 show Vec.mk 0 [] [] (clnN []) [] [] 0 0 = noV
 rw [clnN_no (fun ⟨i, h, _⟩ => absurd h (Nat.not_lt_zero _))]; rfl
theorem specPickW (d : Nat) (v : Vec) (val : Value) (lo hi : Nat) (w : World) (hva : VecAt lo hi w d v val) (hhi : hi ≤ w.heap.size) (hval : ValidV v) (h5 : ¬ kindV v = 5) (h0 : ¬ kindV v = 0) (hsm : Small d v) (Z : List Int) (sa : Option Addr) (sc B : Nat) (hs : IntsAt B w sa Z.length (fun i => Z.getD i 0)) (hB : B ≤ w.heap.size) (hbd : ∀ z ∈ Z, -100 ≤ z ∧ z ≤ 100) (hZ : Z.length ≤ 80) :
  Calls Tryz.prog 19 #[val, .slice sa Z.length sc] w (ResV (d + 1) (sbQ v Z) w) := by
 obtain ⟨kk, items, parts, names, cls, levels, code, env⟩ := v
 have h5 : ¬ kk = 5 := h5
 have h0 : ¬ kk = 0 := h0
 obtain ⟨d', ai, ci, ap, cp, an, cn, ac, cc, al, cl, ed, rfl, hI, hN, hC, hL, hP⟩ := vecAt_open hva
 subst ed
 have hf : FlatOk kk items parts.length names cls levels code env := hval.1.flat
 have q1 := hf.h_names
 unfold lenV at q1
 rw [if_neg h5] at q1
 have hlen : (sbI (items.length + parts.length) Z).length = Z.length := sbI_len _ _
 have hs' : IntsAt B w sa (sbI (items.length + parts.length) Z).length (fun i => Z.getD i 0) := by rw [hlen]; exact hs
 have hbd' : ∀ i, i < (sbI (items.length + parts.length) Z).length → -1048576 ≤ Z.getD i 0 ∧ Z.getD i 0 ≤ 1048576 := fun i hi => by
  rw [hlen] at hi
  have := hbd _ (getDZ_mem hi); omega
 have hin : ∀ (n : Nat), items.length + parts.length = n → ∀ i, i < (sbI (items.length + parts.length) Z).length → (Z.getD i 0 = (((sbI (items.length + parts.length) Z).getD i 0 : Nat) : Int) + 1 ∧ (sbI (items.length + parts.length) Z).getD i 0 < n) ∨ ((sbI (items.length + parts.length) Z).getD i 0 = n ∧ ¬ (1 ≤ Z.getD i 0 ∧ Z.getD i 0 ≤ (n : Int))) := fun n hn i hi => by
  rw [hlen] at hi
  rw [sbI_at hi, hn]
  by_cases q : 1 ≤ Z.getD i 0 ∧ Z.getD i 0 ≤ (n : Int)
  ·rw [sbX_in q]; exact .inl ⟨by omega, by omega⟩
  ·rw [sbX_out q]; exact .inr ⟨rfl, q⟩
 by_cases h4 : kk = 4
 ·subst h4
  have l0 := hf.h_list rfl
  rw [sb_list hval]
  have h := specPickQ d' items parts names cls levels code env ai ap an ac al sa ci cp cn cc cl sc lo hi B (sbI (items.length + parts.length) Z) (fun i => Z.getD i 0) w (fun i p hp => by
   obtain ⟨b, off, c0, c1, c2, c3, c4, c5, c6, c7, e, g0, g1, hvv, m⟩ := hP i p hp
   exact ⟨b, off, c0, c1, c2, c3, c4, c5, c6, c7, e, g0, g1, VecAt.more d' p _ hvv, m⟩) hN hhi l0 hsm.2.1 hsm.2.2.1 (hf.h_noLevels (by decide)) (fun p hp => Small.moreS _ _ (hsm.2.2.2.2.2.2.2.2.2 p hp)) (fun i hi => by have := part_is hval.1 (d' + 1) i hi; exact ⟨this.1, this.2.1⟩) hs' hbd' hB (by rw [hlen]; omega) (hin _ (by omega)) (fun h => by omega)
  rw [hlen] at h
  exact h
 ·have p0 := hf.h_noParts h4
  rw [sb_atomic hval h4 h0]
  by_cases hl : levels.length = 0
  ·have h := specPickZ0 d' kk items parts names cls levels code env ai ap an ac al sa ci cp cn cc cl sc lo hi B (sbI (items.length + parts.length) Z) (fun i => Z.getD i 0) w hI hN hC hL hhi hsm.1 p0 hsm.2.2.1 hsm.2.2.2.1 hsm.2.2.2.2.1 hs' hbd' hB (by rw [hlen]; omega) h4 h5 (hin _ (by omega)) (fun h => by omega) hl
   rw [hlen] at h
   refine h.mono ?_
   rintro e w' ⟨y, rfl, ho, hb⟩
   exact ⟨y, rfl, Own.le (Nat.le_succ _) ho, hb⟩
  ·have h := specPickZ1 d' kk items parts names cls levels code env ai ap an ac al sa ci cp cn cc cl sc lo hi B (sbI (items.length + parts.length) Z) (fun i => Z.getD i 0) w hI hN hC hL hhi hsm.1 p0 hsm.2.2.1 hsm.2.2.2.1 hsm.2.2.2.2.1 hs' hbd' hB (by rw [hlen]; omega) h4 h5 (hin _ (by omega)) (fun h => by omega) hl
   rw [hlen] at h
   refine h.mono ?_
   rintro e w' ⟨y, rfl, ho, hb⟩
   exact ⟨y, rfl, Own.le (Nat.le_succ _) ho, hb⟩
set_option maxHeartbeats 8000000 in
theorem specSubsetOf (d d2 : Nat) (v s : Vec) (val vals : Value) (lo hi : Nat) (w : World) (hv : VecAt lo hi w d v val) (hs : VecAt lo hi w d2 s vals) (hhi : hi ≤ w.heap.size) (hsm : Small d v) (hsm2 : Small d2 s) :
  Calls Tryz.prog 5 #[val, vals] w (ResVS (d + 1) (sbV v s) (sbS v s) w) := by
 have C1 := hd9 (fun (w1 : World) (hb : Below w.heap.size w w1) => specIsVector d v val lo hi w1 (hv.below hb hhi) (Nat.le_trans hhi hb.size) hsm)
 have LN := hd9 (fun (W : World) (hb : Below w.heap.size w W) => specLenW d v val lo hi W (hv.below hb hhi) hsm)
 have CP := hd9 (fun (h : ValidV v) (h5 : ¬ kindV v = 5) (h0 : ¬ kindV v = 0) (Z : List Int) (sa : Option Addr) (sc : Nat) (W : World) (hb : Below w.heap.size w W) (hx : IntsAt W.heap.size W sa Z.length (fun i => Z.getD i 0)) (b1 : ∀ z ∈ Z, -100 ≤ z ∧ z ≤ 100) (b2 : Z.length ≤ 80) => specPickW d v val lo hi W (hv.below hb hhi) (Nat.le_trans hhi hb.size) h h5 h0 hsm Z sa sc W.heap.size hx (Nat.le_refl _) b1 b2)
 obtain ⟨VV, hVV⟩ : ∃ V, v = V := ⟨_, rfl⟩
 have SX0 := hd9 (fun (d' : Nat) (ed : d = d' + 1) (h : ValidV VV) (h5 : ¬ kindV VV = 5) => (by subst ed; rw [← hVV] at h h5 ⊢; rw [sbR_eq]; exact small_sbQ _ h h5 hsm (rv_bd v s).1 : Small (d' + 1 + 1) (sbR VV s)))
 rw [hVV] at C1 LN CP ⊢
 obtain ⟨kk, items, parts, names, cls, levels, code, env⟩ := v
 obtain ⟨d', ai, ci, ap, cp, an, cn, ac, cc, al, cl, ed, rfl, hI, hN, hC, hL, hP⟩ := vecAt_open hv
 have SX := hd9 (SX0.out d' ed)
 clear SX0
 subst ed
 have ln : names.length ≤ 1048576 := hsm.2.2.1
 have XK : kindV VV = kk := by rw [← hVV]; rfl
 have XN : namV VV = names := by rw [← hVV]; rfl
 have CR := hd9 (fun (W : World) (hb : Below w.heap.size w W) => specResolve d2 s vals (lengthV VV : Int) names an cn lo hi lo hi W (hs.below hb hhi) (Nat.le_trans hhi hb.size) hsm2 (hN.below hb hhi) (Nat.le_trans hhi hb.size) ln)
 have RB := hd9 (fun h => rv_bad (v := VV) (s := s) h)
 have RF := hd9 (fun h h5 => rv_fun (v := VV) (s := s) h h5)
 have RV := hd9 (fun h h5 => (by have := rv_yes (v := VV) (s := s) h h5; rw [XN] at this; exact this : rvZ VV s = rsZ (lengthV VV : Int) names s ∧ rvS VV s = rsS (lengthV VV : Int) names s))
 have XB := hd9 (fun h => sb_bad (v := VV) (s := s) h)
 have XG := hd9 (fun h h1 => sb_big (v := VV) (s := s) h h1)
 have XY := hd9 (fun h h1 => sb_yes (v := VV) (s := s) h h1)
 have X0 := hd9 (fun (h : ValidV VV) (h0 : kindV VV = 0) => (by rw [sbR_eq]; exact sb_null h h0 _ : sbR VV s = noV ∧ ValidV noV))
 have ER := hd9 (sbR_eq VV s)
 have BD := hd9 (rs_bd (lengthV VV : Int) names s)
 have CF := hd9 (fun (W : World) (y : Value) (hy : VecAt 0 W.heap.size W (d' + 1 + 1) (sbR VV s) y) (h : Small (d' + 1 + 1) (sbR VV s)) => specFit (d' + 1 + 1) (sbR VV s) y 0 W.heap.size W hy (Nat.le_refl _) h)
 obtain ⟨sk, sa1, sn1, sm1, sa2, sn2, sm2, sa3, sn3, sm3, sa4, sn4, sm4, sa5, sn5, sm5, sc, se, rfl⟩ := hs.agg
 obtain ⟨EV, hEV⟩ : ∃ x, sbV VV s = x := ⟨_, rfl⟩
 obtain ⟨ES, hES⟩ : ∃ x, sbS VV s = x := ⟨_, rfl⟩
 obtain ⟨X, hX⟩ : ∃ x, sbR VV s = x := ⟨_, rfl⟩
 obtain ⟨L, hL'⟩ : ∃ x, lengthV VV = x := ⟨_, rfl⟩
 rw [hEV, hES] at XB XG XY ⊢
 rw [hX] at XG XY SX X0 ER CF
 rw [hL'] at LN CR RV BD
 obtain ⟨Z, hZ⟩ : ∃ x, rsZ (L : Int) names s = x := ⟨_, rfl⟩
 obtain ⟨R, hR⟩ : ∃ x, rsS (L : Int) names s = x := ⟨_, rfl⟩
 rw [hZ, hR] at CR RV
 rw [hZ] at BD
 clear hv hs hhi hsm hsm2 hEV hES hX hL' hZ hR hVV hI hN hC hL hP ln XN
 go_enter Tryz.func5, Tryz.ntmps5
 go_wp2_with fail
 obtain ⟨w1, hw1⟩ : ∃ W, ((w.alloc (.cells #[.int .i64 kk, .slice ai items.length ci, .slice ap parts.length cp, .slice an names.length cn, .slice ac cls.length cc, .slice al levels.length cl, .int .i64 code, .int .i64 env] 31)).alloc (.cells #[.int .i64 sk, .slice sa1 sn1 sm1, .slice sa2 sn2 sm2, .slice sa3 sn3 sm3, .slice sa4 sn4 sm4, .slice sa5 sn5 sm5, .int .i64 sc, .int .i64 se] 31)).alloc (.cells #[.int .i64 0, .slice none 0 0, .slice none 0 0, .slice none 0 0, .slice none 0 0, .slice none 0 0, .int .i64 0, .int .i64 0] 31) = W := ⟨_, rfl⟩
 have hs1 : (w.alloc (.cells #[.int .i64 kk, .slice ai items.length ci, .slice ap parts.length cp, .slice an names.length cn, .slice ac cls.length cc, .slice al levels.length cl, .int .i64 code, .int .i64 env] 31)).heap.size = w.heap.size + 1 := by simp
 have hs2 : ((w.alloc (.cells #[.int .i64 kk, .slice ai items.length ci, .slice ap parts.length cp, .slice an names.length cn, .slice ac cls.length cc, .slice al levels.length cl, .int .i64 code, .int .i64 env] 31)).alloc (.cells #[.int .i64 sk, .slice sa1 sn1 sm1, .slice sa2 sn2 sm2, .slice sa3 sn3 sm3, .slice sa4 sn4 sm4, .slice sa5 sn5 sm5, .int .i64 sc, .int .i64 se] 31)).heap.size = w.heap.size + 1 + 1 := by simp
 have B1 := hd9 (show Below w.heap.size w w1 from hw1 ▸ (((below1 w _).alloc (by simp) _).alloc (by simp; omega) _))
 have KA := hd9 (show w1.heap[w.heap.size]? = some (.cells #[.int .i64 kk, .slice ai items.length ci, .slice ap parts.length cp, .slice an names.length cn, .slice ac cls.length cc, .slice al levels.length cl, .int .i64 code, .int .i64 env] 31 (0, 0)) from hw1 ▸ blk_old (blk_old (blk_new w _ rfl)))
 have KB := hd9 (show w1.heap[(w.heap.size + 1)]? = some (.cells #[.int .i64 sk, .slice sa1 sn1 sm1, .slice sa2 sn2 sm2, .slice sa3 sn3 sm3, .slice sa4 sn4 sm4, .slice sa5 sn5 sm5, .int .i64 sc, .int .i64 se] 31 (0, 0)) from hw1 ▸ blk_old (hs1 ▸ blk_new (w.alloc (.cells #[.int .i64 kk, .slice ai items.length ci, .slice ap parts.length cp, .slice an names.length cn, .slice ac cls.length cc, .slice al levels.length cl, .int .i64 code, .int .i64 env] 31)) (.cells #[.int .i64 sk, .slice sa1 sn1 sm1, .slice sa2 sn2 sm2, .slice sa3 sn3 sm3, .slice sa4 sn4 sm4, .slice sa5 sn5 sm5, .int .i64 sc, .int .i64 se] 31) rfl))
 have KR := hd9 (show w1.heap[(w.heap.size + 1 + 1)]? = some (.cells #[.int .i64 0, .slice none 0 0, .slice none 0 0, .slice none 0 0, .slice none 0 0, .slice none 0 0, .int .i64 0, .int .i64 0] 31 (0, 0)) from hw1 ▸ hs2 ▸ blk_new ((w.alloc (.cells #[.int .i64 kk, .slice ai items.length ci, .slice ap parts.length cp, .slice an names.length cn, .slice ac cls.length cc, .slice al levels.length cl, .int .i64 code, .int .i64 env] 31)).alloc (.cells #[.int .i64 sk, .slice sa1 sn1 sm1, .slice sa2 sn2 sm2, .slice sa3 sn3 sm3, .slice sa4 sn4 sm4, .slice sa5 sn5 sm5, .int .i64 sc, .int .i64 se] 31)) (.cells #[.int .i64 0, .slice none 0 0, .slice none 0 0, .slice none 0 0, .slice none 0 0, .slice none 0 0, .int .i64 0, .int .i64 0] 31) rfl)
 have Z1 := hd9 (show w1.heap.size = w.heap.size + 1 + 1 + 1 from hw1 ▸ (by simp))
 rw [hw1]
 clear hw1 hs1 hs2
 with_reducible refine (C1.out _ B1.out).mono ?_
 rintro e w2 ⟨rfl, b⟩
 have KA := hd9 (blk_below b KA.out)
 have KB := hd9 (blk_below b KB.out)
 have KR := hd9 (blk_below b KR.out)
 have B2 := hd9 (below_then B1.out b)
 clear b C1
 by_cases q : ValidV VV
 ·rw [bB_yes q]
  by_cases h5 : kk = 5
  ·have XX := hd9 (by have h := RF.out q (XK.trans h5); have h2 := XB.out (fun e => by rw [h.2] at e; exact absurd e (by decide)); rw [h.2] at h2; exact h2 : EV = noV ∧ ES = nelB)
   subst h5
   clear q XK XB XG XY RB RF RV CR LN CP SX X0 ER BD CF
   obtain ⟨k0, k1, k2, k3, k4, k5, k6, k7⟩ := vec8 KA.out
   obtain ⟨z0, z1, z2, z3, z4, z5, z6, z7⟩ := vec8 KR.out
   obtain ⟨f0, f1, f2, f3, f4, f5, f6, f7⟩ := free8 KR.out
   go_wp2
   rw [XX.out.1, XX.out.2]
   exact vec_endS rfl rfl rfl rfl KR.out (zeroSD _ _ w _ (put8_below B2.out (by omega)))
  ·have h5' : ¬ kindV VV = 5 := fun e => h5 (XK ▸ e)
   obtain ⟨hz0, hr0⟩ := RV.out q h5'
   rw [hr0] at XB XG XY
   rw [hz0] at ER
   have CP2 := hd9 (fun h0 => CP.out q h5' h0)
   have SX2 := hd9 (SX.out q h5')
   have X02 := hd9 (fun h0 => X0.out q h0)
   have h5b : (kk == 5) = false := beq_eq_false_iff_ne.2 h5
   have NR := hd9 (⟨KR.out⟩ : NewB (w.heap.size + 1 + 1) 31 #[.int .i64 0, .slice none 0 0, .slice none 0 0, .slice none 0 0, .slice none 0 0, .slice none 0 0, .int .i64 0, .int .i64 0] w2)
   clear q RB RF RV h5 h5' CP SX X0 hz0 hr0
   obtain ⟨k0, k1, k2, k3, k4, k5, k6, k7⟩ := vec8 KA.out
   go_upto_region 5 with (fail)
   clear k0 k1 k2 k3 k4 k5 k6 k7
   have H := hd9 (show HeldC w2 w2 ([(w.heap.size, 31, #[.int .i64 kk, .slice ai items.length ci, .slice ap parts.length cp, .slice an names.length cn, .slice ac cls.length cc, .slice al levels.length cl, .int .i64 code, .int .i64 env]), (w.heap.size + 1, 31, #[.int .i64 sk, .slice sa1 sn1 sm1, .slice sa2 sn2 sm2, .slice sa3 sn3 sm3, .slice sa4 sn4 sm4, .slice sa5 sn5 sm5, .int .i64 sc, .int .i64 se])]) from heldC_two (Below.refl _ _) KA.out KB.out)
   refine run_regionT (ops := (opsOf Tryz.f5 5)) (S := fun w' => HeldC w2 w' ([(w.heap.size, 31, #[.int .i64 kk, .slice ai items.length ci, .slice ap parts.length cp, .slice an names.length cn, .slice ac cls.length cc, .slice al levels.length cl, .int .i64 code, .int .i64 env]), ((w.heap.size + 1), 31, #[.int .i64 sk, .slice sa1 sn1 sm1, .slice sa2 sn2 sm2, .slice sa3 sn3 sm3, .slice sa4 sn4 sm4, .slice sa5 sn5 sm5, .int .i64 sc, .int .i64 se])])) (.leaf [(0, true), (2, true), (3, true), (4, true), (1, false), (5, false), (6, true), (7, true), (8, true), (9, true), (10, true)]) (by kernel_rfl) (by kernel_rfl) (by kernel_rfl) (by kernel_rfl) (by kernel_rfl) (fun _ _ _ _ _ h => h) (heldC_drew H.out) ?_
   have H := hd9 (heldC_drew H.out)
   have NR := hd9 (NR.out.keep (below_drew' (Below.refl _ _)))
   refine runC_vec (b := w.heap.size) (show opAt (opsOf Tryz.f5 5) 0 = some (some 21, .load 31 (.tmp 2), none) from by kernel_rfl) (by kernel_rfl) (by kernel_rfl) (by kernel_rfl) mh9 ?_
   refine runC_partV (b := w.heap.size) (by kernel_rfl) (show opAt (opsOf Tryz.f5 5) 2 = some (some 23, .fieldAddr 31 (.tmp 2) 3, none) from by kernel_rfl) (by kernel_rfl) (by kernel_rfl) (by kernel_rfl) ?_
   refine runC_cell (b := w.heap.size) (j := 3) (v := .slice an names.length cn) load_strs (show opAt (opsOf Tryz.f5 5) 3 = some (some 24, .load 24 (.tmp 23), none) from by kernel_rfl) (by kernel_rfl) (by kernel_rfl) (by kernel_rfl) mh9 rfl ?_
   refine runC_vec (b := (w.heap.size + 1)) (show opAt (opsOf Tryz.f5 5) 4 = some (some 25, .load 31 (.tmp 3), none) from by kernel_rfl) (by kernel_rfl) (by kernel_rfl) (by kernel_rfl) (mt9 mh9) ?_
   refine run_call (args := [.agg #[.int .i64 kk, .slice ai items.length ci, .slice ap parts.length cp, .slice an names.length cn, .slice ac cls.length cc, .slice al levels.length cl, .int .i64 code, .int .i64 env]]) (show opAt (opsOf Tryz.f5 5) 1 = some (some 22, .call { callee := .value (.func 17), args := [(.tmp 21)].toArray, argTypes := [31].toArray }, none) from by kernel_rfl) (by kernel_rfl) (by kernel_rfl) (by kernel_rfl) (by kernel_rfl) ?_
   refine (LN.out _ (below_then B2.out H.out.1)).mono ?_
   rintro en rw1 ⟨rfl, hb⟩
   refine ⟨_, rfl, heldC_call H.out hb, ?_⟩
   have H := hd9 (heldC_call H.out hb)
   have NR := hd9 (NR.out.keep hb)
   clear hb
   refine run_call (args := [.int .i64 ((L : Int)), .slice an names.length cn, .agg #[.int .i64 sk, .slice sa1 sn1 sm1, .slice sa2 sn2 sm2, .slice sa3 sn3 sm3, .slice sa4 sn4 sm4, .slice sa5 sn5 sm5, .int .i64 sc, .int .i64 se]]) (show opAt (opsOf Tryz.f5 5) 5 = some (some 26, .call { callee := .value (.func 16), args := [(.tmp 22), (.tmp 24), (.tmp 25)].toArray, argTypes := [3, 24, 31].toArray }, none) from by kernel_rfl) (by kernel_rfl) (by kernel_rfl) (by kernel_rfl) (by kernel_rfl) ?_
   refine (CR.out _ (below_then B2.out H.out.1)).mono ?_
   rintro en rw2 ⟨v5, rfl, hz⟩
   refine ⟨_, rfl, heldC_call H.out hz.below, ?_⟩
   have BH := hd9 H.out.1
   have HZ := hd9 hz
   have H := hd9 (heldC_call H.out hz.below)
   have NR := hd9 (NR.out.keep hz.below)
   clear hz
   refine run_mov (v := .tuple #[v5, .string R]) (show opAt (opsOf Tryz.f5 5) 6 = some (some 20, .move (.tmp 26), none) from by kernel_rfl) (by kernel_rfl) (by kernel_rfl) (by kernel_rfl) ?_
   refine run_extract (vs := #[v5, .string R]) (v := v5) (show opAt (opsOf Tryz.f5 5) 7 = some (some 27, .extract (.tmp 20) 0, none) from by kernel_rfl) (by kernel_rfl) (by kernel_rfl) (by kernel_rfl) (by rfl) ?_
   refine run_extract (vs := #[v5, .string R]) (v := .string R) (show opAt (opsOf Tryz.f5 5) 8 = some (some 28, .extract (.tmp 20) 1, none) from by kernel_rfl) (by kernel_rfl) (by kernel_rfl) (by kernel_rfl) (by rfl) ?_
   refine run_asg (v := v5) (show opAt (opsOf Tryz.f5 5) 9 = some (some 6, .assign (.tmp 27), none) from by kernel_rfl) (by kernel_rfl) (by kernel_rfl) (by kernel_rfl) ?_
   refine run_asg (v := .string R) (show opAt (opsOf Tryz.f5 5) 10 = some (some 7, .assign (.tmp 28), none) from by kernel_rfl) (by kernel_rfl) (by kernel_rfl) (by kernel_rfl) ?_
   refine run_done ?_
   simp only [putAll, Act.put, List.setIfInBounds_toArray, List.set_cons_zero, List.set_cons_succ]
   obtain ⟨w3, hw3⟩ : ∃ W, rw2 = W := ⟨_, rfl⟩
   rw [hw3] at HZ H NR ⊢
   clear hw3
   have KA := hd9 (heldC_at H.out mh9)
   have KR := hd9 NR.out.out
   have B3 := hd9 (below_then B2.out H.out.1)
   clear H NR BH
   by_cases hR : R = ⟨#[]⟩
   ·have XG2 := hd9 (fun h1 => XG.out hR h1)
    have XY2 := hd9 (fun h1 => XY.out hR h1)
    obtain ⟨sa, c, hv5, hi'⟩ := HZ.out.ints
    subst hv5
    have HI := hd9 hi'
    clear hi' XB XG XY CR HZ
    subst hR
    by_cases h0 : kk = 0
    ·have h0' := X02.out (XK.trans h0)
     have XX := hd9 (by have h := XY2.out (h0'.1.symm ▸ h0'.2); rw [h0'.1] at h; exact h : EV = noV ∧ ES = ⟨#[]⟩)
     subst h0
     clear h0' XG2 XY2 X02 CP2 SX2 ER CF XK
     obtain ⟨k0, k1, k2, k3, k4, k5, k6, k7⟩ := vec8 KA.out
     obtain ⟨z0, z1, z2, z3, z4, z5, z6, z7⟩ := vec8 KR.out
     obtain ⟨f0, f1, f2, f3, f4, f5, f6, f7⟩ := free8 KR.out
     go_wp2
     rw [XX.out.1, XX.out.2]
     exact vec_endS rfl rfl rfl rfl KR.out (zeroSD _ _ w _ (put8_below B3.out (by omega)))
    ·have h0b : (kk == 0) = false := beq_eq_false_iff_ne.2 h0
     have CPX := hd9 (by
      have h := CP2.out (fun e => h0 (XK ▸ e)) Z sa c w3 B3.out HI.out BD.out.2 BD.out.1
      rw [← ER.out] at h; exact h : Calls Tryz.prog 19 #[.agg #[.int .i64 kk, .slice ai items.length ci, .slice ap parts.length cp, .slice an names.length cn, .slice ac cls.length cc, .slice al levels.length cl, .int .i64 code, .int .i64 env], .slice sa Z.length c] w3 (ResV (d' + 1 + 1) X w3))
     clear h0 X02 CP2 XK HI BD
     obtain ⟨k0, k1, k2, k3, k4, k5, k6, k7⟩ := vec8 KA.out
     go_wp2_with fail
     refine (CPX.out).mono ?_
     rintro e w4 ⟨y, rfl, ho, b⟩
     have B4 := hd9 (below_then B3.out b)
     have hr3 := (gs9.1 KR.out).1
     have KR := hd9 (blk_below b KR.out)
     have HO := hd9 ho
     clear ho b k0 k1 k2 k3 k4 k5 k6 k7 CPX
     go_wp2_with fail
     refine (CF.out _ _ (HO.out.vat (Nat.le_refl _)) SX2.out).mono ?_
     rintro e w5 ⟨b, hor⟩
     have B5 := hd9 (below_then B4.out b)
     have KR := hd9 (blk_below b KR.out)
     have HO := hd9 (HO.out.below b (Nat.le_refl _))
     have L3 := hd9 B3.out.size
     have S5 := hd9 b.size
     clear b
     rcases hor with ⟨hv, rfl⟩ | ⟨hn, rfl⟩
     ·have XX := hd9 (XY2.out hv)
      obtain ⟨yk, ya1, yn1, ym1, ya2, yn2, ym2, ya3, yn3, ym3, ya4, yn4, ym4, ya5, yn5, ym5, yc, ye, rfl⟩ := HO.out.agg
      clear XG2 XY2 hv CF
      have BX := hd9 (below1 w5 (.cells #[.int .i64 yk, .slice ya1 yn1 ym1, .slice ya2 yn2 ym2, .slice ya3 yn3 ym3, .slice ya4 yn4 ym4, .slice ya5 yn5 ym5, .int .i64 yc, .int .i64 ye] 31))
      have KR := hd9 (blk_below BX.out KR.out)
      have B6 := hd9 (below_then B5.out BX.out)
      have HO := hd9 (HO.out.below BX.out S5.out)
      have S6 := hd9 (Nat.le_trans S5.out BX.out.size)
      clear BX
      obtain ⟨z0, z1, z2, z3, z4, z5, z6, z7⟩ := vec8 KR.out
      obtain ⟨f0, f1, f2, f3, f4, f5, f6, f7⟩ := free8 KR.out
      go_wp2
      rw [XX.out.1, XX.out.2]
      exact vec_endS rfl rfl rfl rfl KR.out ⟨_, rfl, (HO.out.put8 hr3 _ _ _ _ _ _ _ _).wide L3.out (by rw [put8_size]; exact S6.out), put8_below B6.out (by omega)⟩
     ·have XX := hd9 (XG2.out hn)
      clear XG2 XY2 hn CF
      have BX := hd9 (below1 w5 (.cells #[.int .i64 0, .slice none 0 0, .slice none 0 0, .slice none 0 0, .slice none 0 0, .slice none 0 0, .int .i64 0, .int .i64 0] 31))
      have KR := hd9 (blk_below BX.out KR.out)
      have B6 := hd9 (below_then B5.out BX.out)
      clear BX
      obtain ⟨z0, z1, z2, z3, z4, z5, z6, z7⟩ := vec8 KR.out
      obtain ⟨f0, f1, f2, f3, f4, f5, f6, f7⟩ := free8 KR.out
      go_wp2
      rw [XX.out.1, XX.out.2]
      exact vec_endS rfl rfl rfl rfl KR.out (zeroSD _ _ w _ (put8_below B6.out (by omega)))
   ·have XX := hd9 (XB.out hR)
    have hRb : (R.toList == []) = false := by have h := str_not hR; rw [ByteArray.toList_eq ⟨#[]⟩] at h; exact h
    clear hR XG XY XB CR HZ CP2 SX2 X02 ER BD CF
    obtain ⟨z0, z1, z2, z3, z4, z5, z6, z7⟩ := vec8 KR.out
    obtain ⟨f0, f1, f2, f3, f4, f5, f6, f7⟩ := free8 KR.out
    go_wp2
    rw [XX.out.1, XX.out.2]
    exact vec_endS rfl rfl rfl rfl KR.out (zeroSD _ _ w _ (put8_below B3.out (by omega)))
 ·rw [bB_no q]
  have XX := hd9 (by have h := RB.out q; have h2 := XB.out (fun e => by rw [h.2] at e; exact absurd e (by decide)); rw [h.2] at h2; exact h2 : EV = noV ∧ ES = badB)
  clear q XK XB XG XY RB RF RV CR LN CP SX X0 ER BD CF
  go_wp2_with fail
  with_reducible refine (specBad _).mono ?_
  rintro e w3 ⟨rfl, b⟩
  have B2 := hd9 (below_then B2.out b)
  have KR := hd9 (blk_below b KR.out)
  clear b
  obtain ⟨z0, z1, z2, z3, z4, z5, z6, z7⟩ := vec8 KR.out
  obtain ⟨f0, f1, f2, f3, f4, f5, f6, f7⟩ := free8 KR.out
  go_wp2
  rw [XX.out.1, XX.out.2]
  exact vec_endS rfl rfl rfl rfl KR.out (zeroSD _ _ w _ (put8_below B2.out (by omega)))
end Go.Proofs.YteoalkjngkcheaaGreat

/- Vectors that come in as arguments of the laws. -/
namespace Go.Proofs.YteoalkjngkcheaaGreat
open Go.ChangeShapes Go.WideShapes Go.RowKit Go.Deep
open Go.ChangeMaps (open_string shut_string)
set_option maxRecDepth 100000
set_option linter.unusedVariables false

theorem list_of {α : Type} (P : Nat → α → Prop) : ∀ n, (∀ i, i < n → ∃ v, P i v) → ∃ l : List α, l.length = n ∧ ∀ i v, l[i]? = some v → P i v
 | 0, _ => ⟨[], rfl, fun i v h => by simp at h⟩
 | n + 1, h => by
  obtain ⟨l, hl, hp⟩ := list_of P n (fun i hi => h i (by omega))
  obtain ⟨v, hv⟩ := h n (by omega)
  refine ⟨l ++ [v], by simp [hl], fun i x hx => ?_⟩
  by_cases hi : i < n
  ·rw [List.getElem?_append_left (by omega)] at hx; exact hp i x hx
  ·rw [List.getElem?_append_right (by omega)] at hx
   have : i - l.length = 0 := by
    rcases Nat.eq_zero_or_pos (i - l.length) with e | e
    ·exact e
    ·rw [List.getElem?_eq_none (by simp; omega)] at hx; cases hx
   rw [this] at hx
   simp at hx
   subst hx
   have : i = n := by omega
   subst this; exact hv
theorem cell_ltV {w : World} {p : Addr} {v : Value} (h : w.cell? p = some v) : p.block < w.heap.size := by
 unfold World.cell? at h
 rcases Nat.lt_or_ge p.block w.heap.size with h' | h'
 ·exact h'
 ·rw [Array.getElem?_eq_none h'] at h; cases h
theorem add_off {b o j : Nat} : (⟨b, o, none⟩ : Addr).add j = ⟨b, o + j, none⟩ := by
 unfold Addr.add; split
 ·rename_i h; subst h; rfl
 ·rfl

section
variable {H : Type} {enc : TypeId × Value → H} {P : Program} {w : World} {base : Nat} {spare : Nat → Bool} {held : Bool}
/-- A slice of structs of one-cell fields, opened: the cells of each element and what each reads as. -/
theorem open_structs {t e : TypeId} {fs : Array Field} {fuel : Nat} {a : Option Addr} {len cap : Nat} {x : DataW H × List MemPlace} (ht : P.underlying t = some (.slice e)) (he : P.underlying e = some (.struct fs))
  (hone : oneCellFields P fs = true) (hC : P.cellsOf e = fs.size) (hpos : 0 < fs.size) (h : DataW.trod enc P w base spare held fuel t [.slice a len cap] = some x) :
  len ≤ maxLen ∧ ∀ i, i < len → ∃ b o n, n < fuel ∧ a = some ⟨b, o, none⟩ ∧ b < w.heap.size ∧
    ∀ (j : Nat) (f : Field), fs[j]? = some f → ∃ (v : Value) (y : DataW H × List MemPlace), w.cell? ⟨b, o + i * fs.size + j, none⟩ = some v ∧ DataW.trod enc P w base spare held n f.type [v] = some y := by
 rcases DataW.trod_slice ht h with ⟨h0, _⟩ | ⟨ad, len', cap', elems, rest, n, hn, hcs, _, hb, hl, hm, hlen, hel, _, _⟩
 ·simp only [List.cons.injEq, Value.slice.injEq, and_true] at h0
  obtain ⟨rfl, rfl, rfl⟩ := h0
  exact ⟨Nat.zero_le _, fun i hi => absurd hi (Nat.not_lt_zero _)⟩
 ·simp only [List.cons.injEq, Value.slice.injEq, and_true] at hcs
  obtain ⟨rfl, rfl, rfl⟩ := hcs
  refine ⟨Nat.le_trans hl hm, fun i hi => ?_⟩
  obtain ⟨b, o, spot⟩ := ad
  have hspot : spot = none := by
   have key := hel 0 (by omega)
   rw [List.getElem?_eq_getElem (by omega)] at key
   obtain ⟨cs', hc, ht'⟩ := Option.bind_eq_some_iff.1 key
   rw [hC] at hc
   obtain ⟨ys, n', hn', hy, hlen', hyl, hf⟩ := DataW.trod_struct he ht'
   obtain ⟨_, hcl, hat⟩ := World.cells?_some hc
   have h00 := hat 0 hpos
   rw [List.getElem?_eq_getElem (by omega)] at h00
   simpa [Addr.add] using World.cell?_spot h00
  subst hspot
  have key := hel i hi
  rw [List.getElem?_eq_getElem (by omega)] at key
  obtain ⟨cs', hc, ht'⟩ := Option.bind_eq_some_iff.1 key
  rw [hC] at hc
  obtain ⟨ys, n', hn', hy, hlen', hyl, hf⟩ := DataW.trod_struct he ht'
  obtain ⟨_, hcl, hat⟩ := World.cells?_some hc
  have h00 := hat 0 hpos
  rw [List.getElem?_eq_getElem (by omega)] at h00
  rw [add_off, add_off] at h00
  refine ⟨b, o, n', by omega, rfl, cell_ltV h00, fun j f hj => ?_⟩
  obtain ⟨ho, hk⟩ := hone_of hone j f hj
  have hjl : j < fs.size := (gs9.1 hj).1
  have hcell := hat j hjl
  have hv : cs'[j]? = some (cs'[j]'(by omega)) := List.getElem?_eq_getElem (by omega)
  have h1 := hf j f hj
  rw [ho, hk] at h1
  have hone' : (cs'.drop j).take 1 = [cs'[j]'(by omega)] := by
   rw [List.drop_eq_getElem_cons (by omega)]
   rfl
  rw [hone'] at h1
  have hys : ys[j]? = some (ys[j]'(by omega)) := List.getElem?_eq_getElem (by omega)
  refine ⟨_, _, ?_, h1.trans hys⟩
  rw [add_off, add_off] at hcell
  rw [hcell, hv]
/-- A struct of one-cell fields by its cells. -/
theorem open_cells {e : TypeId} {fs : Array Field} {fuel : Nat} {cs : List Value} {x : DataW H × List MemPlace} (he : P.underlying e = some (.struct fs))
  (hone : oneCellFields P fs = true) (hC : P.cellsOf e = fs.size) (h : DataW.trod enc P w base spare held fuel e cs = some x) :
  cs.length = fs.size ∧ ∃ n, n < fuel ∧ ∀ (j : Nat) (f : Field), fs[j]? = some f → ∃ (v : Value) (y : DataW H × List MemPlace), cs[j]? = some v ∧ DataW.trod enc P w base spare held n f.type [v] = some y := by
 obtain ⟨ys, n', hn', hy, hlen', hyl, hf⟩ := DataW.trod_struct he h
 rw [hC] at hlen'
 refine ⟨hlen', n', by omega, fun j f hj => ?_⟩
 obtain ⟨ho, hk⟩ := hone_of hone j f hj
 have hjl : j < fs.size := (gs9.1 hj).1
 have h1 := hf j f hj
 rw [ho, hk] at h1
 have hone' : (cs.drop j).take 1 = [cs[j]'(by omega)] := by
  rw [List.drop_eq_getElem_cons (by omega)]
  rfl
 rw [hone'] at h1
 have hys : ys[j]? = some (ys[j]'(by omega)) := List.getElem?_eq_getElem (by omega)
 exact ⟨_, _, List.getElem?_eq_getElem (by omega), h1.trans hys⟩
end
theorem VecAt.le {lo hi : Nat} {w : World} {d d' : Nat} (h : d ≤ d') {v : Vec} {val : Value} (hv : VecAt lo hi w d v val) : VecAt lo hi w d' v val := by
 induction h with
 | refl => exact hv
 | step _ ih => exact VecAt.more _ _ _ ih
theorem Fits.more : ∀ (d : Nat) (v : Vec), Fits d v → Fits (d + 1) v
 | 0, _, h => h.elim
 | d + 1, .mk _ _ _ _ _ _ _ _, h => by
  unfold Fits at h ⊢
  obtain ⟨h1, h2, h3, h4, h5, h6, h7, h8, h9, h10, h11, h12, h13⟩ := h
  exact ⟨h1, h2, h3, h4, h5, h6, h7, h8, h9, h10, h11, h12, fun p hp => Fits.more d p (h13 p hp)⟩
theorem Fits.le {d d' : Nat} (h : d ≤ d') {v : Vec} (hv : Fits d v) : Fits d' v := by
 induction h with
 | refl => exact hv
 | step _ ih => exact Fits.more _ _ ih

section
variable {H : Type} {enc : TypeId × Value → H} {W : World} {base : Nat} {sp : Nat → Bool} {held : Bool}
theorem slice_form {P : Program} {t e : TypeId} {fuel : Nat} {v : Value} {x : DataW H × List MemPlace} (ht : P.underlying t = some (.slice e)) (h : DataW.trod enc P W base sp held fuel t [v] = some x) : ∃ a n cap, v = .slice a n cap ∧ n ≤ cap := by
 rcases DataW.trod_slice ht h with ⟨h0, _⟩ | ⟨ad, len', cap', elems, rest, n, hn, hcs, _, hb, hl, _⟩
 ·simp only [List.cons.injEq, and_true] at h0; exact ⟨_, _, _, h0, Nat.le_refl _⟩
 ·simp only [List.cons.injEq, and_true] at hcs; exact ⟨_, _, _, hcs, hl⟩
theorem texts_in {fuel : Nat} {v : Value} {x : DataW H × List MemPlace} (h : DataW.trod enc Tryz.prog W base sp held fuel 24 [v] = some x) :
  ∃ (l : List ByteArray) (a : Option Addr) (cap : Nat), v = .slice a l.length cap ∧ TextsAt 0 W.heap.size W a l ∧ l.length ≤ maxLen ∧ (∀ s ∈ l, s.size ≤ maxLen) ∧ l.length ≤ cap := by
 obtain ⟨a, n, cap, rfl, hcap⟩ := slice_form Tryz.underlying24 h
 obtain ⟨f, hf, hn, hs⟩ := strs_in (a := a) (n := n) (cap := cap) h
 refine ⟨(List.range n).map f, a, cap, by simp, fun i x hx => ?_, by simpa using hn, fun s hs' => ?_, by simpa using hcap⟩
 ·obtain ⟨hi, rfl⟩ := List.getElem?_eq_some_iff.1 hx
  obtain ⟨b, off, e, hb, hc⟩ := hf i (by simpa using hi)
  exact ⟨b, off, e, Nat.zero_le _, hb, by simpa using hc⟩
 ·obtain ⟨i, _, rfl⟩ := List.mem_map.1 hs'
  exact hs i
theorem items_in {fuel : Nat} {v : Value} {x : DataW H × List MemPlace} (h : DataW.trod enc Tryz.prog W base sp held fuel 22 [v] = some x) :
  ∃ (l : List It) (a : Option Addr) (cap : Nat), v = .slice a l.length cap ∧ ItemsAt 0 W.heap.size W a l ∧ l.length ≤ maxLen ∧ (∀ x ∈ l, (-9223372036854775808 ≤ x.n ∧ x.n ≤ 9223372036854775807) ∧ (-9223372036854775808 ≤ x.d ∧ x.d ≤ 9223372036854775807) ∧ x.t.size ≤ maxLen) ∧ l.length ≤ cap := by
 obtain ⟨a, n, cap, rfl, hcap⟩ := slice_form Tryz.underlying22 h
 obtain ⟨hn, hi⟩ := open_structs Tryz.underlying22 Tryz.underlying60 (by kernel_rfl) (by kernel_rfl) (by decide) h
 obtain ⟨l, hl, hp⟩ := list_of (fun i (x : It) => ∃ b off, a = some ⟨b, off, none⟩ ∧ b < W.heap.size ∧ W.cell? ⟨b, off + i * 3, none⟩ = some (.int .i64 x.n) ∧ W.cell? ⟨b, off + i * 3 + 1, none⟩ = some (.int .i64 x.d) ∧ W.cell? ⟨b, off + i * 3 + 2, none⟩ = some (.string x.t) ∧ InB x) n (by
  intro i hin
  obtain ⟨b, o, m, hm, ha, hb, hf⟩ := hi i hin
  obtain ⟨v0, y0, c0, t0⟩ := hf 0 _ rfl
  obtain ⟨v1, y1, c1, t1⟩ := hf 1 _ rfl
  obtain ⟨v2, y2, c2, t2⟩ := hf 2 _ rfl
  obtain ⟨n0, e0, _, b0⟩ := DataW.trod_int Tryz.underlying3 t0
  obtain ⟨n1, e1, _, b1⟩ := DataW.trod_int Tryz.underlying3 t1
  obtain ⟨s, e2, _, b2⟩ := DataW.trod_string Tryz.underlying9 t2
  simp at e0 e1 e2
  subst e0 e1 e2
  exact ⟨⟨n0, n1, s⟩, b, o, ha, hb, c0, c1, c2, bounds_i64 b0, bounds_i64 b1, b2⟩)
 subst hl
 refine ⟨l, a, cap, rfl, fun i x hx => ?_, hn, fun x hx => ?_, hcap⟩
 ·obtain ⟨b, off, e, hb, c0, c1, c2, _⟩ := hp i x hx
  exact ⟨b, off, e, Nat.zero_le _, hb, c0, c1, c2⟩
 ·obtain ⟨i, hi'⟩ := List.getElem?_of_mem hx
  obtain ⟨_, _, _, _, _, _, _, hb⟩ := hp i x hi'
  exact hb
/-- A vector that came in, by its fields. -/
theorem vec_fields : ∀ (fuel : Nat) (c0 c1 c2 c3 c4 c5 c6 c7 : Value) (y0 y1 y2 y3 y4 y5 y6 y7 : DataW H × List MemPlace), DataW.trod enc Tryz.prog W base sp held fuel 3 [c0] = some y0 → DataW.trod enc Tryz.prog W base sp held fuel 22 [c1] = some y1 →
  DataW.trod enc Tryz.prog W base sp held fuel 23 [c2] = some y2 → DataW.trod enc Tryz.prog W base sp held fuel 24 [c3] = some y3 → DataW.trod enc Tryz.prog W base sp held fuel 24 [c4] = some y4 → DataW.trod enc Tryz.prog W base sp held fuel 24 [c5] = some y5 →
  DataW.trod enc Tryz.prog W base sp held fuel 3 [c6] = some y6 → DataW.trod enc Tryz.prog W base sp held fuel 3 [c7] = some y7 →
  ∃ v, VecAt 0 W.heap.size W (fuel + 1) v (.agg #[c0, c1, c2, c3, c4, c5, c6, c7]) ∧ Fits (fuel + 1) v := by
 intro fuel
 induction fuel using Nat.strongRecOn with
 | ind fuel IH =>
  intro c0 c1 c2 c3 c4 c5 c6 c7 y0 y1 y2 y3 y4 y5 y6 y7 t0 t1 t2 t3 t4 t5 t6 t7
  obtain ⟨kk, e0, _, b0⟩ := DataW.trod_int Tryz.underlying3 t0
  obtain ⟨code, e6, _, b6⟩ := DataW.trod_int Tryz.underlying3 t6
  obtain ⟨env, e7, _, b7⟩ := DataW.trod_int Tryz.underlying3 t7
  simp at e0 e6 e7
  subst e0 e6 e7
  obtain ⟨items, ai, ci, rfl, hI, hIn, hIb, qI⟩ := items_in t1
  obtain ⟨names, an, cn, rfl, hN, hNn, hNb, qN⟩ := texts_in t3
  obtain ⟨cls, ac, cc, rfl, hC, hCn, hCb, qC⟩ := texts_in t4
  obtain ⟨levels, al, cl, rfl, hL, hLn, hLb, qL⟩ := texts_in t5
  obtain ⟨ap, n, cp, rfl, qP⟩ := slice_form Tryz.underlying23 t2
  obtain ⟨hn, hi⟩ := open_structs Tryz.underlying23 Tryz.underlying26 (by kernel_rfl) (by kernel_rfl) (by decide) t2
  obtain ⟨parts, hl, hp⟩ := list_of (fun i (p : Vec) => (∃ b off u0 u1 u2 u3 u4 u5 u6 u7, ap = some ⟨b, off, none⟩ ∧ 0 ≤ b ∧ b < W.heap.size ∧ VecAt 0 W.heap.size W fuel p (.agg #[u0, u1, u2, u3, u4, u5, u6, u7]) ∧
    W.cell? ⟨b, off + i * 8, none⟩ = some u0 ∧ W.cell? ⟨b, off + i * 8 + 1, none⟩ = some u1 ∧ W.cell? ⟨b, off + i * 8 + 2, none⟩ = some u2 ∧ W.cell? ⟨b, off + i * 8 + 3, none⟩ = some u3 ∧ W.cell? ⟨b, off + i * 8 + 4, none⟩ = some u4 ∧ W.cell? ⟨b, off + i * 8 + 5, none⟩ = some u5 ∧ W.cell? ⟨b, off + i * 8 + 6, none⟩ = some u6 ∧ W.cell? ⟨b, off + i * 8 + 7, none⟩ = some u7) ∧ Fits fuel p) n (by
   intro i hin
   obtain ⟨b, o, m, hm, ha, hb, hf⟩ := hi i hin
   obtain ⟨v0, z0, q0, s0⟩ := hf 0 _ rfl
   obtain ⟨v1, z1, q1, s1⟩ := hf 1 _ rfl
   obtain ⟨v2, z2, q2, s2⟩ := hf 2 _ rfl
   obtain ⟨v3, z3, q3, s3⟩ := hf 3 _ rfl
   obtain ⟨v4, z4, q4, s4⟩ := hf 4 _ rfl
   obtain ⟨v5, z5, q5, s5⟩ := hf 5 _ rfl
   obtain ⟨v6, z6, q6, s6⟩ := hf 6 _ rfl
   obtain ⟨v7, z7, q7, s7⟩ := hf 7 _ rfl
   obtain ⟨v, hv, hfit⟩ := IH m hm v0 v1 v2 v3 v4 v5 v6 v7 _ _ _ _ _ _ _ _ s0 s1 s2 s3 s4 s5 s6 s7
   exact ⟨v, ⟨b, o, v0, v1, v2, v3, v4, v5, v6, v7, ha, Nat.zero_le _, hb, hv.le (by omega), q0, q1, q2, q3, q4, q5, q6, q7⟩, hfit.le (by omega)⟩)
  subst hl
  refine ⟨.mk kk items parts names cls levels code env, vecAt_mk hI hN hC hL (fun i p hp' => (hp i p hp').1) ⟨qI, qP, qN, qC, qL⟩, ?_⟩
  unfold Fits
  refine ⟨bounds_i64 b0, bounds_i64 b6, bounds_i64 b7, hIn, hn, hNn, hCn, hLn, hIb, hNb, hCb, hLb, fun p hp' => ?_⟩
  obtain ⟨i, hi'⟩ := List.getElem?_of_mem hp'
  exact (hp i p hi').2
/-- A vector that came in. -/
theorem vec_in {b0 : Nat} {r : Reach} {v : Value} {dt : DataW H} {p : List MemPlace} (hv : Value.okWide Tryz.prog W r b0 26 v) (h : DataW.Trod enc Tryz.prog W base sp held 26 v dt p) :
  ∃ (d : Nat) (x : Vec), VecAt 0 W.heap.size W d x v ∧ Fits d x := by
 obtain ⟨cs, rfl, hsz⟩ := okWide_struct Tryz.underlying26 hv
 obtain ⟨fuel, hf⟩ := h
 obtain ⟨hlen, n, hn, hg⟩ := open_cells Tryz.underlying26 (by kernel_rfl) (by kernel_rfl) hf
 obtain ⟨l⟩ := cs
 match l, hlen with
 | [c0, c1, c2, c3, c4, c5, c6, c7], _ =>
  obtain ⟨v0, z0, q0, s0⟩ := hg 0 _ rfl
  obtain ⟨v1, z1, q1, s1⟩ := hg 1 _ rfl
  obtain ⟨v2, z2, q2, s2⟩ := hg 2 _ rfl
  obtain ⟨v3, z3, q3, s3⟩ := hg 3 _ rfl
  obtain ⟨v4, z4, q4, s4⟩ := hg 4 _ rfl
  obtain ⟨v5, z5, q5, s5⟩ := hg 5 _ rfl
  obtain ⟨v6, z6, q6, s6⟩ := hg 6 _ rfl
  obtain ⟨v7, z7, q7, s7⟩ := hg 7 _ rfl
  simp only [Value.cells, List.getElem?_cons_zero, List.getElem?_cons_succ, Option.some.injEq] at q0 q1 q2 q3 q4 q5 q6 q7
  subst q0 q1 q2 q3 q4 q5 q6 q7
  obtain ⟨x, hx, hfit⟩ := vec_fields n _ _ _ _ _ _ _ _ _ _ _ _ _ _ _ _ s0 s1 s2 s3 s4 s5 s6 s7
  exact ⟨_, x, hx, hfit⟩
end
end Go.Proofs.YteoalkjngkcheaaGreat
