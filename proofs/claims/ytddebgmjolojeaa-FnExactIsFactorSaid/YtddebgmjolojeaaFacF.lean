/- IsFactor, both sides. -/
import Derived.Test.YtddebgmjolojeaaRows
import Derived.Test.YtddebgmjolojeaaFacB
import Derived.Test.YtddebgmjolojeaaVecSame
import Derived.Test.YtddebgmjolojeaaVecCnt
import Derived.Test.YtddebgmjolojeaaVecCntI
import Derived.WalkKit
import Derived.OwnWalk
import Derived.Lib.Hide
namespace Go.Proofs.Ytddebgmjolojeaa
open Go.RowKit
set_option maxRecDepth 100000
set_option linter.unusedVariables false

theorem one_strs {w : World} {g : Nat} {s : ByteArray} (h : w.heap[g]? = some (.cells #[.string s] 9 (0, 0))) : StrsAt w.heap.size w (some ⟨g, 0, none⟩) 1 (fun _ => s) := fun i hi => by
  obtain rfl : i = 0 := by omega
  exact ⟨g, 0, rfl, (Array.getElem?_eq_some_iff.1 h).1, cellOf h rfl⟩
set_option maxHeartbeats 4000000 in
theorem implIsFactor (d : Nat) (v : Vec) (val : Value) (lo hi : Nat) (w : World) (hv : VecAt lo hi w d v val) (hhi : hi ≤ w.heap.size) (hsm : Small d v) :
    Calls Try.prog 7 #[val] w fun e w' => e = .returned (.bool (bB (FacV v))) ∧ Below w.heap.size w w' := by
  have C1 := Lib.hid (fun (w1 : World) (hb : Below w.heap.size w w1) => implIsVector d v val lo hi w1 (hv.below hb hhi) (Nat.le_trans hhi hb.size) hsm)
  obtain ⟨VV, hVV⟩ : ∃ V, v = V := ⟨_, rfl⟩
  rw [hVV] at C1 ⊢
  obtain ⟨kk, items, parts, names, cls, levels, code, env⟩ := v
  obtain ⟨d', ai, ci, ap, cp, an, cn, ac, cc, al, cl, ed, rfl, hI, hN, hC, hL, hP⟩ := vecAt_open hv
  have lc : cls.length ≤ 1048576 := by subst ed; exact hsm.2.2.2.1
  have CE := Lib.hid (fun (w1 : World) (g : Nat) (hb : Below w.heap.size w w1) (hN : w1.heap[g]? = some (.cells #[.string ⟨#[102, 97, 99, 116, 111, 114]⟩] 9 (0, 0))) => implEqTx ac (some ⟨g, 0, none⟩) cls.length 1 cc 1 (txtS cls) (fun _ => facB) hi w1.heap.size w1 (hC.below hb hhi).strs (one_strs hN) lc (by decide))
  have FV := Lib.hid (show FacV VV ↔ (ValidV VV ∧ ¬ levels.length = 0 ∧ EqTx (txtS cls) (fun _ => facB) cls.length 1) from by
    rw [← hVV, facV_iff, cls_one]
    refine and_congr_right fun _ => and_congr_right fun _ => ⟨fun ⟨h1, h2⟩ => ⟨h1, fun i hi => ?_⟩, fun ⟨h1, h2⟩ => ⟨h1, h2 0 (by omega)⟩⟩
    obtain rfl : i = 0 := by omega
    exact h2)
  obtain ⟨nl, hnl⟩ : ∃ nl, levels.length = nl := ⟨_, rfl⟩
  rw [hnl] at C1 FV ⊢
  clear hv hI hN hC hL hP hsm ed hVV hnl lc
  go_enter Try.func7, Try.ntmps7
  go_wp2_with fail
  obtain ⟨w1, hw1⟩ : ∃ W, w.alloc (.cells #[.int .i64 kk, .slice ai items.length ci, .slice ap parts.length cp, .slice an names.length cn, .slice ac cls.length cc, .slice al nl cl, .int .i64 code, .int .i64 env] 32) = W := ⟨_, rfl⟩
  have B1 := Lib.hid (show Below w.heap.size w w1 from hw1 ▸ below1 w _)
  have KA := Lib.hid (show w1.heap[w.heap.size]? = some (.cells #[.int .i64 kk, .slice ai items.length ci, .slice ap parts.length cp, .slice an names.length cn, .slice ac cls.length cc, .slice al nl cl, .int .i64 code, .int .i64 env] 32 (0, 0)) from hw1 ▸ blk_new w _ rfl)
  rw [hw1]
  clear hw1
  with_reducible refine (C1.out _ B1.out).mono ?_
  rintro e w2 ⟨rfl, b⟩
  have B2 := Lib.hid (below_then B1.out b)
  have KA := Lib.hid (blk_below b KA.out)
  clear b C1
  obtain ⟨k0, k1, k2, k3, k4, k5, k6, k7⟩ := vec8 KA.out
  by_cases q : ValidV VV
  · rw [bB_yes q]
    by_cases h0 : nl = 0
    · have X := Lib.hid (show ¬ FacV VV from fun h => (FV.out.1 h).2.1 h0)
      subst h0
      clear q FV CE
      go_wp2
      go_ret
      exact ⟨ret_no X.out, B2.out⟩
    · have X := Lib.hid (show FacV VV ↔ EqTx (txtS cls) (fun _ => facB) cls.length 1 from ⟨fun h => (FV.out.1 h).2.2, fun h => FV.out.2 ⟨q, h0, h⟩⟩)
      have h1 : (nl : Int) > 0 := by omega
      have hlt := (Array.getElem?_eq_some_iff.1 KA.out).1
      clear q FV h0
      go_wp2_with fail
      with_reducible refine (CE.out _ _ (B2.out.alloc B2.out.size _) (blk_new _ _ rfl)).mono ?_
      rintro e w3 ⟨rfl, b⟩
      have B3 := Lib.hid (below_then (B2.out.alloc B2.out.size _) b)
      obtain ⟨z, hz⟩ : ∃ z, bB (EqTx (txtS cls) (fun _ => facB) cls.length 1) = z := ⟨_, rfl⟩
      have XZ := Lib.hid (show bB (FacV VV) = z by rw [bB_iff X.out, hz])
      rw [hz]
      clear b hz X CE
      cases z
      · go_wp2
        go_ret
        exact ⟨by rw [XZ.out]; rfl, B3.out⟩
      · go_wp2
        go_ret
        exact ⟨by rw [XZ.out]; rfl, B3.out⟩
  · have X := Lib.hid (facV_not q)
    rw [bB_no q]
    clear q FV CE
    go_wp2
    go_ret
    exact ⟨ret_no X.out, B2.out⟩
set_option maxHeartbeats 4000000 in
theorem specIsFactor (d : Nat) (v : Vec) (val : Value) (lo hi : Nat) (w : World) (hv : VecAt lo hi w d v val) (hhi : hi ≤ w.heap.size) (hsm : Small d v) :
    Calls Try.prog 5 #[val] w fun e w' => e = .returned (.bool (bB (FacV v))) ∧ Below w.heap.size w w' := by
  have C1 := Lib.hid (fun (w1 : World) (hb : Below w.heap.size w w1) => specIsVector d v val lo hi w1 (hv.below hb hhi) (Nat.le_trans hhi hb.size) hsm)
  obtain ⟨VV, hVV⟩ : ∃ V, v = V := ⟨_, rfl⟩
  rw [hVV] at C1 ⊢
  obtain ⟨kk, items, parts, names, cls, levels, code, env⟩ := v
  obtain ⟨d', ai, ci, ap, cp, an, cn, ac, cc, al, cl, ed, rfl, hI, hN, hC, hL, hP⟩ := vecAt_open hv
  have CT := Lib.hid (fun (w1 : World) (hb : Below w.heap.size w w1) (h : cls.length = 1) => (hC.below hb hhi) 0 (cls.getD 0 ⟨#[]⟩) (by rw [List.getD_eq_getElem?_getD, List.getElem?_eq_getElem (by omega)]; rfl))
  have FV := Lib.hid (show FacV VV ↔ (ValidV VV ∧ ¬ levels.length = 0 ∧ cls.length = 1 ∧ cls.getD 0 ⟨#[]⟩ = facB) from by rw [← hVV, facV_iff, cls_one])
  obtain ⟨s, hs⟩ : ∃ s, cls.getD 0 ⟨#[]⟩ = s := ⟨_, rfl⟩
  rw [hs] at CT FV
  obtain ⟨nl, hnl⟩ : ∃ nl, levels.length = nl := ⟨_, rfl⟩
  obtain ⟨nc, hnc⟩ : ∃ nc, cls.length = nc := ⟨_, rfl⟩
  rw [hnl, hnc] at FV
  rw [hnc] at CT
  rw [hnl, hnc] at C1
  rw [hnl, hnc]
  clear hv hI hN hC hL hP hsm ed hVV hnl hnc hs
  go_enter Try.func5, Try.ntmps5
  go_wp2_with fail
  obtain ⟨w1, hw1⟩ : ∃ W, w.alloc (.cells #[.int .i64 kk, .slice ai items.length ci, .slice ap parts.length cp, .slice an names.length cn, .slice ac nc cc, .slice al nl cl, .int .i64 code, .int .i64 env] 32) = W := ⟨_, rfl⟩
  have B1 := Lib.hid (show Below w.heap.size w w1 from hw1 ▸ below1 w _)
  have KA := Lib.hid (show w1.heap[w.heap.size]? = some (.cells #[.int .i64 kk, .slice ai items.length ci, .slice ap parts.length cp, .slice an names.length cn, .slice ac nc cc, .slice al nl cl, .int .i64 code, .int .i64 env] 32 (0, 0)) from hw1 ▸ blk_new w _ rfl)
  rw [hw1]
  clear hw1
  with_reducible refine (C1.out _ B1.out).mono ?_
  rintro e w2 ⟨rfl, b⟩
  have B2 := Lib.hid (below_then B1.out b)
  have KA := Lib.hid (blk_below b KA.out)
  clear b C1
  by_cases q : ValidV VV
  · rw [bB_yes q]
    by_cases h0 : nl = 0
    · have X := Lib.hid (show ¬ FacV VV from fun h => (FV.out.1 h).2.1 h0)
      subst h0
      clear q FV CT
      obtain ⟨k0, k1, k2, k3, k4, k5, k6, k7⟩ := vec8 KA.out
      go_wp2
      go_ret
      exact ⟨ret_no X.out, B2.out⟩
    · have h1 : (nl : Int) > 0 := by omega
      by_cases hc : nc = 1
      · obtain ⟨b, off, rfl, _, hlt, c0⟩ := CT.out _ B2.out hc
        subst hc
        have hbw : b < w2.heap.size := Nat.lt_of_lt_of_le hlt (Nat.le_trans hhi B2.out.size)
        have c1 : w2.cell? ⟨b, off, none⟩ = some (.string s) := c0
        obtain ⟨k0, k1, k2, k3, k4, k5, k6, k7⟩ := vec8 KA.out
        by_cases hs : s = facB
        · have X := Lib.hid (FV.out.2 ⟨q, h0, rfl, hs⟩)
          obtain rfl : s = ⟨#[102, 97, 99, 116, 111, 114]⟩ := hs
          clear q FV h0 CT c0
          go_wp2
          go_ret
          exact ⟨ret_yes X.out, B2.out⟩
        · have X := Lib.hid (show ¬ FacV VV from fun h => hs (FV.out.1 h).2.2.2)
          have hsb : (s.toList == [102, 97, 99, 116, 111, 114]) = false := by
            have := neB hs
            rw [show facB.toList = [102, 97, 99, 116, 111, 114] from by rw [ByteArray.toList_eq]; rfl] at this
            exact this
          clear q FV h0 CT c0 hs
          go_wp2
          go_ret
          exact ⟨ret_no X.out, B2.out⟩
      · have X := Lib.hid (show ¬ FacV VV from fun h => hc (FV.out.1 h).2.2.1)
        have hcb : ((nc : Int) == 1) = false := beq_eq_false_iff_ne.2 (by omega)
        clear q FV h0 CT hc
        obtain ⟨k0, k1, k2, k3, k4, k5, k6, k7⟩ := vec8 KA.out
        go_wp2
        go_ret
        exact ⟨ret_no X.out, B2.out⟩
  · have X := Lib.hid (facV_not q)
    rw [bB_no q]
    clear q FV CT
    obtain ⟨k0, k1, k2, k3, k4, k5, k6, k7⟩ := vec8 KA.out
    go_wp2
    go_ret
    exact ⟨ret_no X.out, B2.out⟩
end Go.Proofs.Ytddebgmjolojeaa
