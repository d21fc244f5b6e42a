/- The elements of a vector as the parts of a list, in blocks of the call's own. -/
import Derived.Test.YtjpdnabfpiengaaDoorRows
import Derived.Test.YtjpdnabfpiengaaDoorMg1
import Derived.Maps.AppendAt
import Derived.WalkKit
import Derived.OwnWalk
import Derived.Deep.DeepCutAuto
import Derived.Lib.Hide
namespace Go.Proofs.YtjpdnabfpiengaaDoor
open Go.RowKit
set_option maxRecDepth 100000
set_option linter.unusedVariables false

/-- How deep the elements of a vector of depth d are. -/
def elmD (d : Nat) (v : Vec) : Nat := if kindV v = 5 then d else if kindV v = 4 then d - 1 else 1
theorem elmD_fun {d : Nat} {items : List It} {parts : List Vec} {names cls levels : List ByteArray} {code env : Int} : elmD d (.mk 5 items parts names cls levels code env) = d := rfl
theorem elmD_list {d d' : Nat} {items : List It} {parts : List Vec} {names cls levels : List ByteArray} {code env : Int} (h : d = d' + 1) : elmD d (.mk 4 items parts names cls levels code env) = d' := by subst h; rfl
theorem elmD_its {d : Nat} {k : Int} {items : List It} {parts : List Vec} {names cls levels : List ByteArray} {code env : Int} (h5 : k ≠ 5) (h4 : k ≠ 4) : elmD d (.mk k items parts names cls levels code env) = 1 := by
  show (if k = 5 then _ else if k = 4 then _ else _) = _
  rw [if_neg h5, if_neg h4]
/-- What elementsOf answers, owned. -/
def ElmOwn (v : Vec) (d : Nat) (w : World) (e : Ending) (w' : World) : Prop := ∃ y F, e = .returned y ∧ OwnParts w' (elmD d v) y (elems v) F ∧ F.Nodup ∧ (∀ b ∈ F, w.heap.size ≤ b ∧ b < w'.heap.size) ∧ Below w.heap.size w w'
set_option maxHeartbeats 4000000 in
theorem implElemsO (d : Nat) (v : Vec) (val : Value) (lo hi : Nat) (w : World) (hv : VecAt lo hi w d v val) (hhi : hi ≤ w.heap.size) (hsm : Small d v) (hval : ValidV v) :
    Calls Tryd.prog 80 #[val] w (ElmOwn v d w) := by
  have CV := Lib.hid (fun (w1 : World) (hb : Below w.heap.size w w1) => (icvAll d).out v val lo hi w1 (hv.below hb hhi) (Nat.le_trans hhi hb.size) hsm)
  have HSM := Lib.hid hsm
  obtain ⟨VV, hVV⟩ : ∃ V, v = V := ⟨_, rfl⟩
  rw [hVV] at CV HSM ⊢
  obtain ⟨kk, items, parts, names, cls, levels, code, env⟩ := v
  obtain ⟨d', ai, ci, ap, cp, an, cn, ac, cc, al, cl, ed, rfl, hI, hN, hC, hL, hP⟩ := vecAt_open hv
  have hf : FlatOk kk items parts.length names cls levels code env := hval.1.flat
  have hsp : ∀ i, i < parts.length → Small d' (parts.getD i noV) := fun i hi => by subst ed; exact hsm.part hi
  have li : items.length ≤ 1048576 := by subst ed; exact hsm.1
  have lp : parts.length ≤ 1048576 := by subst ed; exact hsm.2.1
  have hit : ∀ x ∈ items, x.t.size ≤ 1048576 := by subst ed; exact hsm.2.2.2.2.2.1
  have AI := Lib.hid (fun (k : Nat) (w1 : World) (hk : k < items.length) (hb : Below w.heap.size w w1) => (hI.below hb hhi).at_ hk)
  have CP := Lib.hid (fun (w1 : World) (hb : Below w.heap.size w w1) => (icsAll d').out parts ap cp lo hi w1 (hP.below hb hhi) (Nat.le_trans hhi hb.size) hsp lp)
  have B0 := Lib.hid (below1 w (.cells #[.int .i64 kk, .slice ai items.length ci, .slice ap parts.length cp, .slice an names.length cn, .slice ac cls.length cc, .slice al levels.length cl, .int .i64 code, .int .i64 env] 31))
  have K0 := Lib.hid (blk_new w (.cells #[.int .i64 kk, .slice ai items.length ci, .slice ap parts.length cp, .slice an names.length cn, .slice ac cls.length cc, .slice al levels.length cl, .int .i64 code, .int .i64 env] 31) rfl)
  by_cases h5 : kk = 5
  · subst h5
    have XE := Lib.hid (elems_fun hVV.symm)
    have XD := Lib.hid (show elmD d VV = d by rw [← hVV]; exact elmD_fun)
    clear hv hI hN hC hL hP hsm ed hVV hf AI CP hval
    go_enter Tryd.func80, Tryd.ntmps80
    go_wp2_with fail
    with_reducible refine (CV.out _ B0.out).mono ?_
    rintro e w2 ⟨y, rfl, ho, hb⟩
    obtain ⟨yk, ya1, yn1, ym1, ya2, yn2, ym2, ya3, yn3, ym3, ya4, yn4, ym4, ya5, yn5, ym5, yc, ye, rfl⟩ := ho.agg
    have HO := Lib.hid ho
    have B2 := Lib.hid (below_then B0.out hb)
    clear ho hb
    go_wp2
    go_ret
    have hb := blk_new w2 (.cells #[.int .i64 yk, .slice ya1 yn1 ym1, .slice ya2 yn2 ym2, .slice ya3 yn3 ym3, .slice ya4 yn4 ym4, .slice ya5 yn5 ym5, .int .i64 yc, .int .i64 ye] 31) rfl
    obtain ⟨F, g1, g2, g3⟩ := HO.out.out
    have hw := B0.out.size
    refine ⟨_, w2.heap.size :: F, rfl, ?_, ?_, fun b hb' => ?_, B2.out.alloc B2.out.size _⟩
    · rw [XE.out, XD.out]
      refine ⟨_, 1, rfl, Nat.le_refl _, .inr ⟨w2.heap.size, _, [F], by simp, rfl, rfl, hb, Nat.le_refl _, fun i hi => ?_⟩⟩
      obtain rfl : i = 0 := by have : i < 1 := hi; omega
      exact ⟨_, g1.kept _ _ _ _ (fun b hm => (below1 w2 _).block b (g3 b hm).2), ⟨_, _, _, _, _, _, _, _, rfl, rfl, rfl, rfl, rfl, rfl, rfl, rfl, rfl⟩⟩
    · exact List.nodup_cons.2 ⟨fun hm => by have := (g3 _ hm).2; omega, g2⟩
    · have hs : (w2.alloc (.cells #[.int .i64 yk, .slice ya1 yn1 ym1, .slice ya2 yn2 ym2, .slice ya3 yn3 ym3, .slice ya4 yn4 ym4, .slice ya5 yn5 ym5, .int .i64 yc, .int .i64 ye] 31)).heap.size = w2.heap.size + 1 := by simp
      rcases List.mem_cons.1 hb' with rfl | hm
      · exact ⟨B2.out.size, by rw [hs]; omega⟩
      · have := g3 b hm; exact ⟨by omega, by rw [hs]; omega⟩
  by_cases h4 : kk = 4
  · subst h4
    have hni : items.length = 0 := hf.h_list rfl
    have XE := Lib.hid (show elems VV = parts by rw [← hVV]; rfl)
    have XD := Lib.hid (show elmD d VV = d' by rw [← hVV]; exact elmD_list ed)
    have SP := Lib.hid hsp
    clear hv hI hN hC hL hP hsm ed hVV hf AI CV hval hsp hit HSM li lp h5
    rw [hni] at B0 K0 ⊢
    clear hni
    go_enter Tryd.func80, Tryd.ntmps80
    go_wp2_with fail
    with_reducible refine (CP.out _ B0.out).mono ?_
    rintro e w2 ⟨v, F, rfl, hp, hn, hr, hb, _⟩
    obtain ⟨a, c, rfl, h1, h2⟩ := id hp
    have HP := Lib.hid hp
    have HN := Lib.hid hn
    have HR := Lib.hid (fun b hb' => (⟨Nat.le_trans (by simp) (hr b hb').1, (hr b hb').2⟩ : w.heap.size ≤ b ∧ b < w2.heap.size))
    have B2 := Lib.hid (below_then B0.out hb)
    have K2 := Lib.hid (blk_below hb K0.out)
    clear hp hn hr hb h1 h2
    obtain ⟨k0, k1, k2, k3, k4, k5, k6, k7⟩ := vec8 K2.out
    go_wp2
    refine wp_loop_rounds 1 ?_
    rw [rounds_succ]
    go_wp2
    go_ret
    exact ⟨_, F, rfl, by rw [XE.out, XD.out]; exact HP.out, HN.out, HR.out, B2.out⟩
  · have hnp : parts.length = 0 := hf.h_noParts h4
    have XE := Lib.hid (show elems VV = items.map (fun x => vecOf kk [x]) by rw [← hVV]; exact elems_items h5 h4)
    have XD := Lib.hid (show elmD d VV = 1 by rw [← hVV]; exact elmD_its h5 h4)
    have h5b : (kk == 5) = false := by simp [h5]
    obtain ⟨S, hS⟩ : ∃ S : List Vec, items.map (fun x => vecOf kk [x]) = S := ⟨_, rfl⟩
    have SL := Lib.hid (show S.length = items.length by rw [← hS]; simp)
    have SG := Lib.hid (fun i (hi : i < items.length) => (by rw [← hS]; simp [List.getD_eq_getElem?_getD, hi] : S.getD i noV = vecOf kk [items.getD i noI]))
    have SS := Lib.hid (fun i (hi : i < items.length) => (by rw [SG.out i hi]; exact small_one (hit _ (by rw [List.getD_eq_getElem?_getD, List.getElem?_eq_getElem hi]; exact List.getElem_mem hi)) : Small 1 (S.getD i noV)))
    rw [hS] at XE
    have RS := Lib.hid (fun (w2 : World) (v : Value) (xs : List Value) (h : w2.ownsRow w.heap.size 31 8 v 0 xs) (hb : Below w.heap.size w w2) => (⟨⟨[], [], rfl, rfl, by have : xs = [] := List.eq_nil_of_length_eq_zero (by simpa using h.1); subst this; exact h, fun i h => absurd h (Nat.not_lt_zero _), List.nodup_nil, fun b h => by cases h⟩, hb⟩ : RowV w w2 1 S 0 v))
    have FIN := Lib.hid (fun (wr : World) (v : Value) (h : RowV w wr 1 S S.length v) => h.parts)
    rw [SL.out] at FIN
    clear hv hI hN hC hL hP hsm ed hVV hf CV hval hsp hit HSM lp hS h5
    have HNP := Lib.hid hnp
    rw [hnp] at B0 K0 CP ⊢
    clear hnp
    obtain ⟨n, hn'⟩ : ∃ n, items.length = n := ⟨_, rfl⟩
    rw [hn'] at AI SL SG SS FIN B0 K0 li ⊢
    clear hn'
    obtain ⟨i0, hi0, hz0, hz1, hz2⟩ := info_parts infoVec8
    go_enter Tryd.func80, Tryd.ntmps80
    go_wp2_with fail
    with_reducible refine (CP.out _ B0.out).mono ?_
    rintro e w2 ⟨v, F, rfl, hp, hn, hr, hb, xs, hx⟩
    obtain ⟨a, c, rfl, _, _⟩ := id hp
    have ST := Lib.hid (RS.out _ _ _ (HNP.out ▸ ownsRow_base hx (by simp)) (below_then B0.out hb))
    have NB := Lib.hid (show (Value.slice a 0 c).ownBlock ≠ some w.heap.size by
      intro e
      have h1 := ((HNP.out ▸ hx : w2.ownsRow _ _ _ (.slice a 0 c) _ _).lt _ e).1
      have h2 : (w.alloc (.cells #[.int .i64 kk, .slice ai n ci, .slice ap 0 cp, .slice an names.length cn, .slice ac cls.length cc, .slice al levels.length cl, .int .i64 code, .int .i64 env] 31)).heap.size = w.heap.size + 1 := by simp
      omega)
    have KA2 := Lib.hid (blk_below hb K0.out)
    clear hp hn hr hb hx
    obtain ⟨k0, k1, k2, k3, k4, k5, k6, k7⟩ := vec8 KA2.out
    go_wp2
    clear k0 k1 k2 k3 k4 k5 k6 k7
    go_loopw [3, 18] (fun v i wr => ∃ k : Nat, k ≤ n ∧ i = .int .i64 k ∧ RowV w wr 1 S k v ∧ wr.heap[w.heap.size]? = some (.cells #[.int .i64 kk, .slice ai n ci, .slice ap 0 cp, .slice an names.length cn, .slice ac cls.length cc, .slice al levels.length cl, .int .i64 code, .int .i64 env] 31 (0, 0)) ∧ v.ownBlock ≠ some w.heap.size) (fun _ i _ => n - (intOf i).toNat)
    case atStart => exact ⟨0, Nat.zero_le _, rfl, by rw [HNP.out]; exact ST.out, KA2.out, by rw [HNP.out]; exact NB.out⟩
    case round =>
      obtain ⟨k, hk, rfl, hrv, hka, hnb⟩ := hrel
      have NB := Lib.hid hnb
      clear hnb
      have RV := Lib.hid hrv
      have KA := Lib.hid hka
      clear hrv hka
      by_cases hlt : k < n
      · obtain ⟨ba, off, rfl, hbB, c0, c1, c2⟩ := AI.out _ _ hlt RV.out.below
        have hbw : ba < wr.heap.size := Nat.lt_of_lt_of_le (Nat.lt_of_lt_of_le hbB hhi) RV.out.below.size
        have hz := (Array.getElem?_eq_some_iff.1 KA.out).1
        have hSk := SG.out k hlt
        obtain ⟨⟨xn, xd, xt⟩, hx⟩ : ∃ x : It, items.getD k noI = x := ⟨_, rfl⟩
        have ht : txtI items k = xt := by unfold txtI; rw [hx]
        rw [ht] at c2
        rw [hx] at hSk
        simp only [hx] at c0 c1
        have HSk := Lib.hid hSk
        clear hSk hx ht
        obtain ⟨k0, k1, k2, k3, k4, k5, k6, k7⟩ := vec8 KA.out
        obtain ⟨w1, hw1⟩ : ∃ W, (wr.alloc (.cells #[.int .i64 xn, .int .i64 xd, .string xt] 56)).alloc (.cells #[.int .i64 xn, .int .i64 xd, .string xt] 56) = W := ⟨_, rfl⟩
        have hsz : (wr.alloc (.cells #[.int .i64 xn, .int .i64 xd, .string xt] 56)).heap.size = wr.heap.size + 1 := by simp
        have BW := Lib.hid (show Below wr.heap.size wr w1 from hw1 ▸ (below1 wr _).alloc (by simp) _)
        have KG := Lib.hid (show w1.heap[wr.heap.size + 1]? = some (.cells #[.int .i64 xn, .int .i64 xd, .string xt] 56 (0, 0)) from hw1 ▸ hsz ▸ blk_new (wr.alloc (.cells #[.int .i64 xn, .int .i64 xd, .string xt] 56)) (.cells #[.int .i64 xn, .int .i64 xd, .string xt] 56) rfl)
        have ES := Lib.hid (show w1.heap.size = wr.heap.size + 1 + 1 from hw1 ▸ (by simp))
        have EW := Lib.hid hw1
        clear hw1 hsz
        obtain ⟨xs, hxs⟩ := RV.out.row
        have XS := Lib.hid hxs
        have OR := Lib.hid (ownsRow_below (ownsRow_below hxs BW.out) (below1 w1 (.cells #[.int .i64 kk, .slice (some ⟨wr.heap.size + 1, 0, none⟩) 1 1, .slice none 0 0, .slice none 0 0, .slice none 0 0, .slice none 0 0, .int .i64 0, .int .i64 0] 31)))
        have HO := Lib.hid (show Own 1 (S.getD k noV) (.agg #[.int .i64 kk, .slice (some ⟨wr.heap.size + 1, 0, none⟩) 1 1, .slice none 0 0, .slice none 0 0, .slice none 0 0, .slice none 0 0, .int .i64 0, .int .i64 0]) (wr.heap.size + 1) w1.heap.size w1 from by rw [HSk.out, ES.out]; exact own_one (x := ⟨xn, xd, xt⟩) KG.out)
        have S1 := Lib.hid (show w.heap.size ≤ wr.heap.size from RV.out.below.size)
        have KA1 := Lib.hid (blk_below (below1 w1 (.cells #[.int .i64 kk, .slice (some ⟨wr.heap.size + 1, 0, none⟩) 1 1, .slice none 0 0, .slice none 0 0, .slice none 0 0, .slice none 0 0, .int .i64 0, .int .i64 0] 31)) (blk_below BW.out KA.out))
        clear hxs
        go_wp2_with (at_builtin; rw [EW.out]; refine wpList_append_own_at _ rfl _ _ 29 rfl w.heap.size 31 i0 _ 8 144 Tryd.underlying29 hi0 hz0 hz1 hz2 rfl (by decide) _ k xs rfl OR.out ⟨w1.heap.size, 0, none⟩ 1 1 [.int .i64 kk, .slice (some ⟨wr.heap.size + 1, 0, none⟩) 1 1, .slice none 0 0, .slice none 0 0, .slice none 0 0, .slice none 0 0, .int .i64 0, .int .i64 0] (by rw [ES.out]; rfl) rfl ?c1 ?c2 ?c3 ?c4 ?c5 ?_)
        case c1 =>
          intro j u hj
          have hlt : j < 8 := by have := (List.getElem?_eq_some_iff.1 hj).1; simpa using this
          rw [addr_add, Nat.zero_add]
          refine cellOf (blk_new w1 _ rfl) ?_
          rw [← hj]
          rcases (show j = 0 ∨ j = 1 ∨ j = 2 ∨ j = 3 ∨ j = 4 ∨ j = 5 ∨ j = 6 ∨ j = 7 by omega) with rfl | rfl | rfl | rfl | rfl | rfl | rfl | rfl <;> rfl
        case c2 => intro u hu; simp only [List.mem_cons, List.not_mem_nil, or_false] at hu; rcases hu with rfl | rfl | rfl | rfl | rfl | rfl | rfl | rfl <;> rfl
        case c3 => unfold maxLen; omega
        case c4 => omega
        case c5 => have := S1.out; have := ES.out; simp; omega
        intro v' w3 hown' hgrow _ hwh
        have NBN := Lib.hid (show v'.ownBlock ≠ some w.heap.size from fun e => by
          rcases hwh with h | h
          · exact NB.out (h ▸ e)
          · rw [e] at h; have h2 := Option.some.inj h; have := ES.out; omega)
        have NX := Lib.hid (RV.out.next HO.out (Nat.le_succ _) BW.out hgrow (fun ys hy => ownsRow_same XS.out hy ▸ hown') (by simpa using hwh))
        have KAN := Lib.hid ((hgrow.block w.heap.size (by have := ES.out; simp; omega) (fun e => NB.out e.symm)).trans KA1.out)
        clear hown' hgrow hwh k0 k1 k2 k3 k4 k5 k6 k7
        go_wp2
        go_roundw
        case rel => exact ⟨k + 1, by omega, by go_num, NX.out, KAN.out, NBN.out⟩
        case measure => simp [intOf]; omega
      · obtain rfl : k = n := by omega
        obtain ⟨F, h1, h2, h3⟩ := FIN.out _ _ RV.out
        obtain ⟨a, c, rfl, _, _⟩ := id h1
        have HV := Lib.hid h1
        have H2 := Lib.hid h2
        have H3 := Lib.hid h3
        clear h1 h2 h3
        go_wp2
        go_ret
        exact ⟨_, F, rfl, by rw [XE.out, XD.out]; exact HV.out, H2.out, H3.out, RV.out.below⟩
end Go.Proofs.YtjpdnabfpiengaaDoor
