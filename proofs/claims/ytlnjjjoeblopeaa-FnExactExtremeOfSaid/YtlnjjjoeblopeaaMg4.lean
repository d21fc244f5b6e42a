/- ExtremeOf of the program. -/
import Derived.Test.YtlnjjjoeblopeaaRows
import Derived.Test.YtlnjjjoeblopeaaMg3
import Derived.Test.YtlnjjjoeblopeaaMg2
import Derived.Test.YtlnjjjoeblopeaaMg1
import Derived.Laws.EntriesVeiled
import Derived.WalkKit
import Derived.OwnWalk
import Derived.Deep.DeepCutAuto
import Derived.Lib.Hide
namespace Go.Proofs.Ytlnjjjoeblopeaa
open Go.RowKit
set_option maxRecDepth 100000
set_option linter.unusedVariables false

def TakenC (drop : Bool) (u : ByteArray) (v : Vec) (w : World) (e : Ending) (w' : World) : Prop :=
  ∃ (sa : Option Addr) (n c : Nat), e = .returned (.tuple #[.slice sa n c, .string (smyS u v)]) ∧ n = (smyL drop v).length ∧ ItemsAt 0 w'.heap.size w' sa (smyL drop v) ∧ Below w.heap.size w w' ∧ n ≤ c
theorem ItR.itemsC {w wr : World} {l : List It} {v : Value} (h : ItR w wr l v) : ∃ sa c, v = .slice sa l.length c ∧ ItemsAt w.heap.size wr.heap.size wr sa l ∧ l.length ≤ c := by
  obtain ⟨a, c, Fi, rfl, ho, hn, hr, hc⟩ := own_of_its h.row
  exact ⟨a, c, rfl, ho.at_ (fun b hb => hr b hb), hc⟩
set_option maxHeartbeats 2000000 in
theorem implTakenC (d : Nat) (v : Vec) (val : Value) (drop : Bool) (u : ByteArray) (hu : ¬ u = ⟨#[]⟩) (lo hi : Nat) (w : World) (hv : VecAt lo hi w d v val) (hhi : hi ≤ w.heap.size) (hsm : Small d v) :
    Calls Try.prog 93 #[val, .bool drop, .string u] w (TakenC drop u v w) := by
  have CP := Lib.hid (fun (w1 : World) (hb : Below w.heap.size w w1) => implPrb1 d v val u lo hi w1 (hv.below hb hhi) (Nat.le_trans hhi hb.size) hsm)
  obtain ⟨VV, hVV⟩ : ∃ V, v = V := ⟨_, rfl⟩
  rw [hVV] at CP ⊢
  obtain ⟨kk, items, parts, names, cls, levels, code, env⟩ := v
  obtain ⟨d', ai, ci, ap, cp, an, cn, ac, cc, al, cl, ed, rfl, hI, hN, hC, hL, hP, hK⟩ := vecAt_openC hv
  have hcap : items.length ≤ ci := hK.1
  clear hK
  have li : items.length ≤ 1048576 := by subst ed; exact hsm.1
  have XN := Lib.hid (fun (h : ValidV VV) (hc : Counts VV) (i : Nat) (hi : i < items.length) => (by rw [← hVV] at h hc; exact num_at h hc hi : NumIt (items.getD i noI)))
  have XE := Lib.hid (show itemsV VV = items by rw [← hVV]; rfl)
  have AT := Lib.hid (fun (w1 : World) (hb : Below w.heap.size w w1) => hI.below hb hhi)
  clear hv hI hN hC hL hP hsm ed hVV
  go_enter Try.func93, Try.ntmps93
  go_wp2_with fail
  obtain ⟨w1, hw1⟩ : ∃ W, w.alloc (.cells #[.int .i64 kk, .slice ai items.length ci, .slice ap parts.length cp, .slice an names.length cn, .slice ac cls.length cc, .slice al levels.length cl, .int .i64 code, .int .i64 env] 31) = W := ⟨_, rfl⟩
  have B1 := Lib.hid (show Below w.heap.size w w1 from hw1 ▸ below1 w _)
  have KA := Lib.hid (show w1.heap[w.heap.size]? = some (.cells #[.int .i64 kk, .slice ai items.length ci, .slice ap parts.length cp, .slice an names.length cn, .slice ac cls.length cc, .slice al levels.length cl, .int .i64 code, .int .i64 env] 31 (0, 0)) from hw1 ▸ blk_new w _ rfl)
  rw [hw1]
  clear hw1
  with_reducible refine (CP.out _ B1.out).mono ?_
  rintro e w2 ⟨rfl, b⟩
  have B2 := Lib.hid (below_then B1.out b)
  have KA2 := Lib.hid (blk_below b KA.out)
  clear b
  obtain ⟨k0, k1, k2, k3, k4, k5, k6, k7⟩ := vec8 KA2.out
  by_cases hs : smyS u VV = ⟨#[]⟩
  · have HV : ValidV VV ∧ Counts VV := by
      by_cases q : ValidV VV
      · by_cases hc : Counts VV
        · exact ⟨q, hc⟩
        · rw [(smy_non q hc (fun _ => noI) drop u).2.1] at hs; exact absurd hs hu
      · rw [(smy_bad q (fun _ => noI) drop u).2.1] at hs; exact absurd hs (by decide)
    have XL := Lib.hid (show smyL drop VV = pickL drop items by rw [(smy_yes HV.1 HV.2 (fun _ => noI) drop u).1, XE.out])
    have XI := Lib.hid (XN.out HV.1 HV.2)
    have XS := Lib.hid hs
    rw [hs]
    clear HV hs XN
    cases drop with
    | true =>
      have CK := Lib.hid (fun (w1 : World) (hb : Below w.heap.size w w1) => implKnown items ai ci lo hi w1 (AT.out w1 hb) (Nat.le_trans hhi hb.size) li XI.out)
      go_wp2_with fail
      with_reducible refine (CK.out _ B2.out).mono ?_
      rintro e w3 ⟨v, rfl, hir⟩
      obtain ⟨sa, c, rfl, hit, hca⟩ := hir.itemsC
      have B3 := Lib.hid (below_then B2.out hir.below)
      have IT := Lib.hid hit
      clear hir hit
      go_wp2
      go_ret2
      exact ⟨sa, _, c, by rw [XS.out]; rfl, by rw [XL.out], by rw [XL.out]; exact IT.out.wide (Nat.zero_le _) (Nat.le_refl _), B3.out, hca⟩
    | false =>
      have IT := Lib.hid (AT.out w2 B2.out)
      rw [pickL_no] at XL
      have B2s := B2.out.size
      go_wp2
      go_ret2
      exact ⟨ai, _, ci, by rw [XS.out]; rfl, by rw [XL.out], by rw [XL.out]; exact IT.out.wide (Nat.zero_le _) (by omega), B2.out, hcap⟩
  · have XL := Lib.hid (show smyL drop VV = [] by
      by_cases q : ValidV VV
      · by_cases hc : Counts VV
        · exact absurd (smy_yes q hc (fun _ => noI) drop u).2.1 hs
        · exact (smy_non q hc (fun _ => noI) drop u).1
      · exact (smy_bad q (fun _ => noI) drop u).1)
    obtain ⟨R, hR⟩ : ∃ R, smyS u VV = R := ⟨_, rfl⟩
    have XS := Lib.hid hR
    rw [hR] at hs ⊢
    have hRb : (R.toList == []) = false := by have h := str_not hs; rw [ByteArray.toList_eq ⟨#[]⟩] at h; exact h
    clear hs hR
    go_wp2
    go_ret2
    exact ⟨none, 0, 0, by rw [XS.out]; rfl, by rw [XL.out]; rfl, by rw [XL.out]; exact items_nil _ _ _ _, B2.out, Nat.le_refl _⟩
set_option maxHeartbeats 1000000 in
theorem implExtClo (lg : Bool) (s x : It) (g : Nat) (w : World) (hs : s.t.size ≤ 9223372036854775807) (hx : x.t.size ≤ 9223372036854775807) (hg : w.heap[g]? = some (.cells #[.int .i64 (wantL lg)] 3 (0, 0))) :
    Calls Try.prog 139 #[.agg #[.int .i64 s.n, .int .i64 s.d, .string s.t], .agg #[.int .i64 x.n, .int .i64 x.d, .string x.t], .pointer (some ⟨g, 0, none⟩)] w fun e w' => e = .returned (.agg #[.int .i64 (extI lg s x).n, .int .i64 (extI lg s x).d, .string (extI lg s x).t]) ∧ Below w.heap.size w w' := by
  have CC := Lib.hid (fun W => implCmp x s W hx hs)
  have hgw := (Array.getElem?_eq_some_iff.1 hg).1
  have KG0 := Lib.hid hg
  have XE := Lib.hid (show extI lg s x = if cmpI x s = 2 then noI else if cmpI x s = wantL lg then x else s from rfl)
  have H4 := cmp_four x s
  obtain ⟨Z, hZ⟩ : ∃ Z, extI lg s x = Z := ⟨_, rfl⟩
  rw [hZ] at XE ⊢
  obtain ⟨c, hc⟩ : ∃ c, cmpI x s = c := ⟨_, rfl⟩
  rw [hc] at CC XE H4
  clear hs hx hg hZ hc
  go_enter Try.func139, Try.ntmps139
  go_upto_region 1 with (fail)
  obtain ⟨w1, hw1⟩ : ∃ W, ((w.alloc (.cells #[.int .i64 s.n, .int .i64 s.d, .string s.t] 66)).alloc (.cells #[.int .i64 x.n, .int .i64 x.d, .string x.t] 66)).alloc (.cells #[.int .i64 0, .int .i64 0, .string ⟨#[]⟩] 66) = W := ⟨_, rfl⟩
  have hsz1 : (w.alloc (.cells #[.int .i64 s.n, .int .i64 s.d, .string s.t] 66)).heap.size = w.heap.size + 1 := by simp
  have hsz2 : ((w.alloc (.cells #[.int .i64 s.n, .int .i64 s.d, .string s.t] 66)).alloc (.cells #[.int .i64 x.n, .int .i64 x.d, .string x.t] 66)).heap.size = w.heap.size + 1 + 1 := by simp
  have B1 := Lib.hid (show Below w.heap.size w w1 from hw1 ▸ below3 w _ _ _)
  have K0 := Lib.hid (show w1.heap[w.heap.size]? = some (.cells #[.int .i64 s.n, .int .i64 s.d, .string s.t] 66 (0, 0)) from by rw [← hw1]; exact blk_old (blk_old (blk_new w _ rfl)))
  have K1 := Lib.hid (show w1.heap[w.heap.size + 1]? = some (.cells #[.int .i64 x.n, .int .i64 x.d, .string x.t] 66 (0, 0)) from by rw [← hw1]; exact blk_old (blk_new _ _ hsz1.symm))
  have K2 := Lib.hid (show w1.heap[w.heap.size + 1 + 1]? = some (.cells #[.int .i64 0, .int .i64 0, .string ⟨#[]⟩] 66 (0, 0)) from by rw [← hw1]; exact blk_new _ _ hsz2.symm)
  have KG := Lib.hid ((B1.out.block g hgw).trans KG0.out)
  rw [hw1]
  clear hw1 hsz1 hsz2
  obtain ⟨⟨s0, s1, s2⟩, _⟩ := three K0.out
  obtain ⟨⟨x0, x1, x2⟩, _⟩ := three K1.out
  go_wp2_with fail
  with_reducible refine (CC.out _).mono ?_
  rintro e w2 ⟨rfl, b⟩
  have B2 := Lib.hid (below_then B1.out b)
  have K0 := Lib.hid (blk_below b K0.out)
  have K1 := Lib.hid (blk_below b K1.out)
  have K2 := Lib.hid (blk_below b K2.out)
  have KG := Lib.hid (blk_below b KG.out)
  clear b s0 s1 s2 x0 x1 x2
  obtain ⟨⟨s0, s1, s2⟩, _⟩ := three K0.out
  obtain ⟨⟨x0, x1, x2⟩, _⟩ := three K1.out
  obtain ⟨⟨z0, z1, z2⟩, f0, f1, f2⟩ := three K2.out
  have g0 : w2.cell? ⟨g, 0, none⟩ = some (.int .i64 (wantL lg)) := cellOf KG.out rfl
  have hwb : Below w.heap.size w w2 := B2.out
  rcases H4 with rfl | rfl | rfl | rfl <;> cases lg <;> (
    simp only [wantL] at g0 XE
    have XZ := Lib.hid XE.out
    simp only [if_true, if_false, Int.reduceEq, Int.reduceNeg] at XZ
    clear XE hwb
    go_wp2
    rw [XZ.out]
    first | exact item_ret rfl rfl rfl K2.out ⟨rfl, below_three B2.out (by omega) _ _ _⟩ | exact item_ret0 rfl rfl rfl K2.out ⟨rfl, B2.out⟩)
set_option maxHeartbeats 2000000 in
theorem implExtIt (l : List It) (lg : Bool) (sa : Option Addr) (c lo hi : Nat) (w : World) (hI : ItemsAt lo hi w sa l) (hhi : hi ≤ w.heap.size) (hn : l.length ≤ 1048576) (h0 : 0 < l.length) (hc : l.length ≤ c) (ht : ∀ i, i < l.length → GoodI (l.getD i noI)) :
    Calls Try.prog 102 #[.slice sa l.length c, .bool lg] w fun e w' => e = .returned (.agg #[.int .i64 (extL lg l).n, .int .i64 (extL lg l).d, .string (extL lg l).t]) ∧ Below w.heap.size w w' := by
  obtain ⟨b, off, rfl, hbB, hc0, hc1, hc2⟩ := hI.at_ h0
  have hbw : b < w.heap.size := Nat.lt_of_lt_of_le hbB hhi
  cases l with
  | nil => cases h0
  | cons a r =>
    have GA : GoodI a := ht 0 h0
    have GR : ∀ i, i < r.length → GoodI (r.getD i noI) := fun i hi => ht (i + 1) (by simpa using hi)
    have CX0 := Lib.hid (show w.cell? ⟨b, off + 0 * 3, none⟩ = some (.int .i64 a.n) from hc0)
    have CX1 := Lib.hid (show w.cell? ⟨b, off + 0 * 3 + 1, none⟩ = some (.int .i64 a.d) from hc1)
    have CX2 := Lib.hid (show w.cell? ⟨b, off + 0 * 3 + 2, none⟩ = some (.string a.t) from hc2)
    have hIt := hI.tail1 (c := c) hc
    have CF := Lib.hid (fun (W : World) (hb : Below w.heap.size w W) (hg : W.heap[w.heap.size + 1]? = some (.cells #[.int .i64 (wantL lg)] 3 (0, 0))) => (by
      have h := implFold 139 #[.pointer (some ⟨w.heap.size + 1, 0, none⟩)] (extI lg) GoodI r a (if c = 1 then some ⟨b, off, none⟩ else some ⟨b, off + 3, none⟩) (c - 1) lo hi W (hIt.below hb hhi) (Nat.le_trans hhi hb.size) (by have : (a :: r).length = r.length + 1 := rfl; omega) (by kernel_rfl) (fun x i W' hx hi hb' => implExtClo lg x (r.getD i noI) (w.heap.size + 1) W' hx.t0 (GR i hi).t0 (blk_below hb' hg)) GA (fun x i hx hi => good_ext lg x _ hx (GR i hi))
      exact h : Calls Try.prog 132 #[.slice (if c = 1 then some ⟨b, off, none⟩ else some ⟨b, off + 3, none⟩) r.length (c - 1), .agg #[.int .i64 a.n, .int .i64 a.d, .string a.t], .func (.func 139) #[] #[.pointer (some ⟨w.heap.size + 1, 0, none⟩)]] W (fun e w' => e = .returned (.agg #[.int .i64 (extL lg (a :: r)).n, .int .i64 (extL lg (a :: r)).d, .string (extL lg (a :: r)).t]) ∧ Below W.heap.size W w')))
    obtain ⟨ta, hta⟩ : ∃ ta : Option Addr, (if c = 1 then (some ⟨b, off, none⟩ : Option Addr) else some ⟨b, off + 3, none⟩) = ta := ⟨_, rfl⟩
    rw [hta] at CF
    have HTA := Lib.hid hta
    clear hta
    obtain ⟨Z, hZ⟩ : ∃ Z, extL lg (a :: r) = Z := ⟨_, rfl⟩
    rw [hZ] at CF ⊢
    have er : r.length = (a :: r).length - 1 := rfl
    rw [er] at CF
    obtain ⟨n, hn'⟩ : ∃ n, (a :: r).length = n := ⟨_, rfl⟩
    rw [hn'] at CF hn h0 hc ⊢
    have h1n : 1 ≤ n := h0
    have hnc : n ≤ c := hc
    clear hn' er hZ hIt hI ht GA GR hc0 hc1 hc2 hbB h0 hc
    go_enter Try.func102, Try.ntmps102
    cases lg with
    | true => 
      simp only [wantL] at CF
      go_upto_region 4 with (fail)
      obtain ⟨w2, hw2⟩ : ∃ W, (w.alloc (.cells #[.int .i64 0, .int .i64 0, .string ⟨#[]⟩] 66)).alloc (.cells #[.int .i64 1] 3) = W := ⟨_, rfl⟩
      have hsz : (w.alloc (.cells #[.int .i64 0, .int .i64 0, .string ⟨#[]⟩] 66)).heap.size = w.heap.size + 1 := by simp
      have B2 := Lib.hid (show Below w.heap.size w w2 from hw2 ▸ below2 w _ _)
      have KZ := Lib.hid (show w2.heap[w.heap.size]? = some (.cells #[.int .i64 0, .int .i64 0, .string ⟨#[]⟩] 66 (0, 0)) from by rw [← hw2]; exact blk_old (blk_new w _ rfl))
      have KG := Lib.hid (show w2.heap[w.heap.size + 1]? = some (.cells #[.int .i64 1] 3 (0, 0)) from by rw [← hw2]; exact blk_new _ _ hsz.symm)
      rw [hw2]
      clear hw2 hsz
      have H := Lib.hid (show HeldC w w2 ([(w.heap.size, 66, #[.int .i64 0, .int .i64 0, .string ⟨#[]⟩])]) from heldC_cons ⟨B2.out, (fun _ h => by cases h)⟩ KZ.out)
      refine run_region (ops := (opsOf Try.f102 4)) (S := fun w' => HeldC w w' ([(w.heap.size, 66, #[.int .i64 0, .int .i64 0, .string ⟨#[]⟩])])) [(0, true), (1, true), (2, true), (3, true), (4, true), (5, true), (6, false), (7, false)] (by kernel_rfl) (by kernel_rfl) (by kernel_rfl) (by kernel_rfl) (by kernel_rfl) (fun _ _ _ _ _ h => h) (heldC_drew H.out) ?_
      have H := Lib.hid (heldC_drew H.out)
      have KG := Lib.hid (show w2.drew.heap[w.heap.size + 1]? = _ from KG.out)
      refine run_mov (v := .slice (some ⟨b, off, none⟩) n c) (show opAt (opsOf Try.f102 4) 0 = some (some 7, .move (.tmp 0), none) from by kernel_rfl) (by kernel_rfl) (by kernel_rfl) (by kernel_rfl) ?_
      refine run_from1 (b := b) (off := off) (n := n) (c := c) (show opAt (opsOf Try.f102 4) 1 = some (some 8, .slice 28 (.tmp 7) (some (.const (.int .i64 1))) none none, none) from by kernel_rfl) (by kernel_rfl) (by kernel_rfl) (by kernel_rfl) h1n hnc HTA.out ?_
      refine run_mov (v := .slice (some ⟨b, off, none⟩) n c) (show opAt (opsOf Try.f102 4) 2 = some (some 9, .move (.tmp 0), none) from by kernel_rfl) (by kernel_rfl) (by kernel_rfl) (by kernel_rfl) ?_
      refine run_idx3 (n := n) (c := c) (b := b) (off := off) (k := 0) (show opAt (opsOf Try.f102 4) 3 = some (some 10, .indexAddr 28 (.tmp 9) (.const (.int .i64 0)), none) from by kernel_rfl) (by kernel_rfl) (by kernel_rfl) (by kernel_rfl) (by kernel_rfl) (by omega) ?_
      refine runC_oldI (b := b) (j := off + 0 * 3) (z := a) (show opAt (opsOf Try.f102 4) 4 = some (some 11, .load 66 (.tmp 10), none) from by kernel_rfl) (by kernel_rfl) (by kernel_rfl) (by kernel_rfl) hbw CX0.out CX1.out CX2.out ?_
      refine run_mkf (f := 139) (v := .pointer (some ⟨w.heap.size + 1, 0, none⟩)) (show opAt (opsOf Try.f102 4) 5 = some (some 12, .makeFunc (.func 139) #[] [(.tmp 5)].toArray, none) from by kernel_rfl) (by kernel_rfl) (by kernel_rfl) (by kernel_rfl) ?_
      refine run_call (args := [.slice ta (n - 1) (c - 1), .agg #[.int .i64 a.n, .int .i64 a.d, .string a.t], .func (.func 139) #[] #[.pointer (some ⟨w.heap.size + 1, 0, none⟩)]]) (show opAt (opsOf Try.f102 4) 6 = some (some 13, .call { callee := .value (.func 132), args := [(.tmp 8), (.tmp 11), (.tmp 12)].toArray, argTypes := [28, 66, 70].toArray }, none) from by kernel_rfl) (by kernel_rfl) (by kernel_rfl) (by kernel_rfl) (by kernel_rfl) ?_
      refine (CF.out _ H.out.1 KG.out).mono ?_
      rintro en rw1 ⟨rfl, hb⟩
      refine ⟨_, rfl, heldC_call H.out hb, ?_⟩
      have H := Lib.hid (heldC_call H.out hb)
      clear hb
      refine run_last (by kernel_rfl) (show opAt (opsOf Try.f102 4) 7 = some (none, .store 66 (.tmp 4) (.tmp 13), none) from by kernel_rfl) (by kernel_rfl) (by kernel_rfl) (by kernel_rfl) (store_item (u := .int .i64 Z.n) (v := .int .i64 Z.d) (q := .string Z.t) (heldC_at H.out (List.Mem.head _)) rfl rfl rfl) ?_
      refine run_done ?_
      simp only [putAll, Act.put, List.setIfInBounds_toArray, List.set_cons_zero, List.set_cons_succ]
      have KZ := Lib.hid (heldC_at H.out (List.Mem.head _))
      go_wp2
      exact item_row_ret rfl rfl rfl (row_set KZ.out) ⟨rfl, below_row H.out.1 (Nat.le_refl _) _⟩
    | false => 
      simp only [wantL] at CF
      go_upto_region 4 with (fail)
      obtain ⟨w2, hw2⟩ : ∃ W, (w.alloc (.cells #[.int .i64 0, .int .i64 0, .string ⟨#[]⟩] 66)).alloc (.cells #[.int .i64 (-1)] 3) = W := ⟨_, rfl⟩
      have hsz : (w.alloc (.cells #[.int .i64 0, .int .i64 0, .string ⟨#[]⟩] 66)).heap.size = w.heap.size + 1 := by simp
      have B2 := Lib.hid (show Below w.heap.size w w2 from hw2 ▸ below2 w _ _)
      have KZ := Lib.hid (show w2.heap[w.heap.size]? = some (.cells #[.int .i64 0, .int .i64 0, .string ⟨#[]⟩] 66 (0, 0)) from by rw [← hw2]; exact blk_old (blk_new w _ rfl))
      have KG := Lib.hid (show w2.heap[w.heap.size + 1]? = some (.cells #[.int .i64 (-1)] 3 (0, 0)) from by rw [← hw2]; exact blk_new _ _ hsz.symm)
      rw [hw2]
      clear hw2 hsz
      have H := Lib.hid (show HeldC w w2 ([(w.heap.size, 66, #[.int .i64 0, .int .i64 0, .string ⟨#[]⟩])]) from heldC_cons ⟨B2.out, (fun _ h => by cases h)⟩ KZ.out)
      refine run_region (ops := (opsOf Try.f102 4)) (S := fun w' => HeldC w w' ([(w.heap.size, 66, #[.int .i64 0, .int .i64 0, .string ⟨#[]⟩])])) [(0, true), (1, true), (2, true), (3, true), (4, true), (5, true), (6, false), (7, false)] (by kernel_rfl) (by kernel_rfl) (by kernel_rfl) (by kernel_rfl) (by kernel_rfl) (fun _ _ _ _ _ h => h) (heldC_drew H.out) ?_
      have H := Lib.hid (heldC_drew H.out)
      have KG := Lib.hid (show w2.drew.heap[w.heap.size + 1]? = _ from KG.out)
      refine run_mov (v := .slice (some ⟨b, off, none⟩) n c) (show opAt (opsOf Try.f102 4) 0 = some (some 7, .move (.tmp 0), none) from by kernel_rfl) (by kernel_rfl) (by kernel_rfl) (by kernel_rfl) ?_
      refine run_from1 (b := b) (off := off) (n := n) (c := c) (show opAt (opsOf Try.f102 4) 1 = some (some 8, .slice 28 (.tmp 7) (some (.const (.int .i64 1))) none none, none) from by kernel_rfl) (by kernel_rfl) (by kernel_rfl) (by kernel_rfl) h1n hnc HTA.out ?_
      refine run_mov (v := .slice (some ⟨b, off, none⟩) n c) (show opAt (opsOf Try.f102 4) 2 = some (some 9, .move (.tmp 0), none) from by kernel_rfl) (by kernel_rfl) (by kernel_rfl) (by kernel_rfl) ?_
      refine run_idx3 (n := n) (c := c) (b := b) (off := off) (k := 0) (show opAt (opsOf Try.f102 4) 3 = some (some 10, .indexAddr 28 (.tmp 9) (.const (.int .i64 0)), none) from by kernel_rfl) (by kernel_rfl) (by kernel_rfl) (by kernel_rfl) (by kernel_rfl) (by omega) ?_
      refine runC_oldI (b := b) (j := off + 0 * 3) (z := a) (show opAt (opsOf Try.f102 4) 4 = some (some 11, .load 66 (.tmp 10), none) from by kernel_rfl) (by kernel_rfl) (by kernel_rfl) (by kernel_rfl) hbw CX0.out CX1.out CX2.out ?_
      refine run_mkf (f := 139) (v := .pointer (some ⟨w.heap.size + 1, 0, none⟩)) (show opAt (opsOf Try.f102 4) 5 = some (some 12, .makeFunc (.func 139) #[] [(.tmp 5)].toArray, none) from by kernel_rfl) (by kernel_rfl) (by kernel_rfl) (by kernel_rfl) ?_
      refine run_call (args := [.slice ta (n - 1) (c - 1), .agg #[.int .i64 a.n, .int .i64 a.d, .string a.t], .func (.func 139) #[] #[.pointer (some ⟨w.heap.size + 1, 0, none⟩)]]) (show opAt (opsOf Try.f102 4) 6 = some (some 13, .call { callee := .value (.func 132), args := [(.tmp 8), (.tmp 11), (.tmp 12)].toArray, argTypes := [28, 66, 70].toArray }, none) from by kernel_rfl) (by kernel_rfl) (by kernel_rfl) (by kernel_rfl) (by kernel_rfl) ?_
      refine (CF.out _ H.out.1 KG.out).mono ?_
      rintro en rw1 ⟨rfl, hb⟩
      refine ⟨_, rfl, heldC_call H.out hb, ?_⟩
      have H := Lib.hid (heldC_call H.out hb)
      clear hb
      refine run_last (by kernel_rfl) (show opAt (opsOf Try.f102 4) 7 = some (none, .store 66 (.tmp 4) (.tmp 13), none) from by kernel_rfl) (by kernel_rfl) (by kernel_rfl) (by kernel_rfl) (store_item (u := .int .i64 Z.n) (v := .int .i64 Z.d) (q := .string Z.t) (heldC_at H.out (List.Mem.head _)) rfl rfl rfl) ?_
      refine run_done ?_
      simp only [putAll, Act.put, List.setIfInBounds_toArray, List.set_cons_zero, List.set_cons_succ]
      have KZ := Lib.hid (heldC_at H.out (List.Mem.head _))
      go_wp2
      exact item_row_ret rfl rfl rfl (row_set KZ.out) ⟨rfl, below_row H.out.1 (Nat.le_refl _) _⟩
set_option maxHeartbeats 2000000 in
theorem implExtOf (d : Nat) (v : Vec) (val : Value) (drop lg : Bool) (lo hi : Nat) (w : World) (hv : VecAt lo hi w d v val) (hhi : hi ≤ w.heap.size) (hsm : Small d v) :
    Calls Try.prog 38 #[val, .bool drop, .bool lg] w (ResVS 1 (exV lg drop v) (exS drop v) w) := by
  have C1 := Lib.hid (fun (w1 : World) (hb : Below w.heap.size w w1) => implTakenC d v val drop nonNumB nonNum_ne lo hi w1 (hv.below hb hhi) (Nat.le_trans hhi hb.size) hsm)
  obtain ⟨VV, hVV⟩ : ∃ V, v = V := ⟨_, rfl⟩
  rw [hVV] at C1 ⊢
  obtain ⟨kk, items, parts, names, cls, levels, code, env⟩ := v
  obtain ⟨d', ai, ci, ap, cp, an, cn, ac, cc, al, cl, ed, rfl, hI, hN, hC, hL, hP⟩ := vecAt_open hv
  clear hv hI hN hC hL hP hsm ed hVV
  go_enter Try.func38, Try.ntmps38
  go_wp2_with fail
  obtain ⟨w1, hw1⟩ : ∃ W, (w.alloc (.cells #[.int .i64 kk, .slice ai items.length ci, .slice ap parts.length cp, .slice an names.length cn, .slice ac cls.length cc, .slice al levels.length cl, .int .i64 code, .int .i64 env] 31)).alloc (.cells #[.int .i64 0, .slice none 0 0, .slice none 0 0, .slice none 0 0, .slice none 0 0, .slice none 0 0, .int .i64 0, .int .i64 0] 31) = W := ⟨_, rfl⟩
  have hsz : (w.alloc (.cells #[.int .i64 kk, .slice ai items.length ci, .slice ap parts.length cp, .slice an names.length cn, .slice ac cls.length cc, .slice al levels.length cl, .int .i64 code, .int .i64 env] 31)).heap.size = w.heap.size + 1 := by simp
  have B1 := Lib.hid (show Below w.heap.size w w1 from hw1 ▸ (below1 w _).alloc (by simp) _)
  have KA := Lib.hid (show w1.heap[w.heap.size]? = some (.cells #[.int .i64 kk, .slice ai items.length ci, .slice ap parts.length cp, .slice an names.length cn, .slice ac cls.length cc, .slice al levels.length cl, .int .i64 code, .int .i64 env] 31 (0, 0)) from hw1 ▸ blk_old (blk_new w _ rfl))
  have KR := Lib.hid (show w1.heap[w.heap.size + 1]? = some (.cells #[.int .i64 0, .slice none 0 0, .slice none 0 0, .slice none 0 0, .slice none 0 0, .slice none 0 0, .int .i64 0, .int .i64 0] 31 (0, 0)) from hw1 ▸ hsz ▸ blk_new (w.alloc (.cells #[.int .i64 kk, .slice ai items.length ci, .slice ap parts.length cp, .slice an names.length cn, .slice ac cls.length cc, .slice al levels.length cl, .int .i64 code, .int .i64 env] 31)) (.cells #[.int .i64 0, .slice none 0 0, .slice none 0 0, .slice none 0 0, .slice none 0 0, .slice none 0 0, .int .i64 0, .int .i64 0] 31) rfl)
  rw [hw1]
  clear hw1 hsz
  refine (C1.out _ B1.out).mono ?_
  rintro e w2 ⟨sa, n, c, rfl, hln, hit, b, hca⟩
  have B2 := Lib.hid (below_then B1.out b)
  have KR := Lib.hid (blk_below b KR.out)
  clear b
  by_cases hs : smyS nonNumB VV = ⟨#[]⟩
  · by_cases hl0 : (smyL drop VV).length = 0
    · obtain ⟨XS, XV⟩ := ex_nil (lg := lg) hs hl0
      have XS := Lib.hid XS
      have XV := Lib.hid XV
      rw [hs]
      obtain rfl : n = 0 := by omega
      clear hs hl0 hit hln hca
      obtain ⟨z0, z1, z2, z3, z4, z5, z6, z7⟩ := vec8 KR.out
      obtain ⟨f0, f1, f2, f3, f4, f5, f6, f7⟩ := free8 KR.out
      go_wp2
      rw [XV.out, XS.out]
      exact vec_endS rfl rfl rfl rfl KR.out (zeroS _ w _ (put8_below B2.out (Nat.le_succ _)))
    · obtain ⟨m, hm⟩ : ∃ m, (smyL drop VV).length = m + 1 := ⟨(smyL drop VV).length - 1, by omega⟩
      obtain ⟨XS, XV⟩ := ex_val (lg := lg) hs hm
      have XS := Lib.hid XS
      have XV := Lib.hid XV
      have CS := Lib.hid (implExtIt (smyL drop VV) lg sa c 0 w2.heap.size w2 hit (Nat.le_refl _) (by have := smyL_len drop VV; omega) (by omega) (by omega) (fun i _ => good_num (smyL_at drop VV i)))
      rw [← hln] at CS
      rw [hs]
      have hn0 : 0 < n := by omega
      have hnb : ((n : Int) == 0) = false := beq_eq_false_iff_ne.2 (by omega)
      obtain ⟨z, hz⟩ : ∃ z, extL lg (smyL drop VV) = z := ⟨_, rfl⟩
      rw [hz] at XV CS
      clear hz hs hit hln hl0 hm hca
      go_wp2_with fail
      with_reducible refine CS.out.mono ?_
      rintro e w3 ⟨rfl, b⟩
      have B3 := Lib.hid (below_then B2.out b)
      have KR := Lib.hid (blk_below b KR.out)
      clear b
      have hr3 := (Array.getElem?_eq_some_iff.1 KR.out).1
      obtain ⟨z0, z1, z2, z3, z4, z5, z6, z7⟩ := vec8 KR.out
      obtain ⟨f0, f1, f2, f3, f4, f5, f6, f7⟩ := free8 KR.out
      go_wp2
      rw [XV.out, XS.out]
      exact vec_oneS rfl rfl rfl rfl KR.out B3.out (Nat.le_succ _)
  · obtain ⟨XS, XV⟩ := ex_not hs lg drop
    have XS := Lib.hid XS
    have XV := Lib.hid XV
    obtain ⟨R, hR⟩ : ∃ R, smyS nonNumB VV = R := ⟨_, rfl⟩
    rw [hR] at hs XS ⊢
    have hRb : (R.toList == []) = false := by have h := str_not hs; rw [ByteArray.toList_eq ⟨#[]⟩] at h; exact h
    clear hs hR
    obtain ⟨z0, z1, z2, z3, z4, z5, z6, z7⟩ := vec8 KR.out
    obtain ⟨f0, f1, f2, f3, f4, f5, f6, f7⟩ := free8 KR.out
    go_wp2
    rw [XV.out, XS.out]
    exact vec_endS rfl rfl rfl rfl KR.out (zeroS _ w _ (put8_below B2.out (Nat.le_succ _)))
end Go.Proofs.Ytlnjjjoeblopeaa

/- ExtremeOf of the reference. -/
namespace Go.Proofs.Ytlnjjjoeblopeaa
open Go.RowKit
set_option maxRecDepth 100000
set_option linter.unusedVariables false

set_option maxHeartbeats 4000000 in
theorem specExtOf (d : Nat) (v : Vec) (val : Value) (drop lg : Bool) (lo hi : Nat) (w : World) (hv : VecAt lo hi w d v val) (hhi : hi ≤ w.heap.size) (hsm : Small d v) :
    Calls Try.prog 37 #[val, .bool drop, .bool lg] w (ResVS 1 (exV lg drop v) (exS drop v) w) := by
  have C1 := Lib.hid (fun (w1 : World) (hb : Below w.heap.size w w1) => specTake d v val drop lo hi w1 (hv.below hb hhi) (Nat.le_trans hhi hb.size) hsm)
  obtain ⟨VV, hVV⟩ : ∃ V, v = V := ⟨_, rfl⟩
  rw [hVV] at C1 ⊢
  obtain ⟨kk, items, parts, names, cls, levels, code, env⟩ := v
  obtain ⟨d', ai, ci, ap, cp, an, cn, ac, cc, al, cl, ed, rfl, hI, hN, hC, hL, hP⟩ := vecAt_open hv
  clear hv hI hN hC hL hP hsm ed hVV
  go_enter Try.func37, Try.ntmps37
  go_wp2_with fail
  obtain ⟨w1, hw1⟩ : ∃ W, (w.alloc (.cells #[.int .i64 kk, .slice ai items.length ci, .slice ap parts.length cp, .slice an names.length cn, .slice ac cls.length cc, .slice al levels.length cl, .int .i64 code, .int .i64 env] 31)).alloc (.cells #[.int .i64 0, .slice none 0 0, .slice none 0 0, .slice none 0 0, .slice none 0 0, .slice none 0 0, .int .i64 0, .int .i64 0] 31) = W := ⟨_, rfl⟩
  have hsz : (w.alloc (.cells #[.int .i64 kk, .slice ai items.length ci, .slice ap parts.length cp, .slice an names.length cn, .slice ac cls.length cc, .slice al levels.length cl, .int .i64 code, .int .i64 env] 31)).heap.size = w.heap.size + 1 := by simp
  have B1 := Lib.hid (show Below w.heap.size w w1 from hw1 ▸ (below1 w _).alloc (by simp) _)
  have KA := Lib.hid (show w1.heap[w.heap.size]? = some (.cells #[.int .i64 kk, .slice ai items.length ci, .slice ap parts.length cp, .slice an names.length cn, .slice ac cls.length cc, .slice al levels.length cl, .int .i64 code, .int .i64 env] 31 (0, 0)) from hw1 ▸ blk_old (blk_new w _ rfl))
  have KR := Lib.hid (show w1.heap[w.heap.size + 1]? = some (.cells #[.int .i64 0, .slice none 0 0, .slice none 0 0, .slice none 0 0, .slice none 0 0, .slice none 0 0, .int .i64 0, .int .i64 0] 31 (0, 0)) from hw1 ▸ hsz ▸ blk_new (w.alloc (.cells #[.int .i64 kk, .slice ai items.length ci, .slice ap parts.length cp, .slice an names.length cn, .slice ac cls.length cc, .slice al levels.length cl, .int .i64 code, .int .i64 env] 31)) (.cells #[.int .i64 0, .slice none 0 0, .slice none 0 0, .slice none 0 0, .slice none 0 0, .slice none 0 0, .int .i64 0, .int .i64 0] 31) rfl)
  rw [hw1]
  clear hw1 hsz
  with_reducible refine (C1.out _ B1.out).mono ?_
  rintro e w2 ⟨sv, rfl, hir⟩
  obtain ⟨sa, c, rfl, hit⟩ := hir.items
  have B2 := Lib.hid (below_then B1.out hir.below)
  have KR := Lib.hid (blk_below hir.below KR.out)
  clear hir
  by_cases hs : smyS nonNumB VV = ⟨#[]⟩
  · by_cases hl0 : (smyL drop VV).length = 0
    · obtain ⟨XS, XV⟩ := ex_nil (lg := lg) hs hl0
      have XS := Lib.hid XS
      have XV := Lib.hid XV
      rw [hs]
      rw [hl0]
      clear hs hl0 hit
      obtain ⟨z0, z1, z2, z3, z4, z5, z6, z7⟩ := vec8 KR.out
      obtain ⟨f0, f1, f2, f3, f4, f5, f6, f7⟩ := free8 KR.out
      go_wp2
      rw [XV.out, XS.out]
      exact vec_endS rfl rfl rfl rfl KR.out (zeroS _ w _ (put8_below B2.out (Nat.le_succ _)))
    · obtain ⟨m, hm⟩ : ∃ m, (smyL drop VV).length = m + 1 := ⟨(smyL drop VV).length - 1, by omega⟩
      obtain ⟨XS, XV⟩ := ex_val (lg := lg) hs hm
      have XS := Lib.hid XS
      have XV := Lib.hid XV
      have AI := Lib.hid (fun (k : Nat) (hk : k < (smyL drop VV).length) => hit.at_ hk)
      have hl40 := smyL_len drop VV
      have TX := Lib.hid (fun i => (smyL_at drop VV i).t0)
      have E1 := Lib.hid (exF_one (lg := lg) (l := smyL drop VV) (by omega))
      have FS := Lib.hid (fun k (h0 : 0 < k) (hk : k < (smyL drop VV).length) => exF_next (lg := lg) h0 hk)
      have GT := Lib.hid (fun k => (exF_good lg (fun x hx => good_num (smyL_num drop VV x hx)) k).t0)
      have FA := Lib.hid (exF_all lg (smyL drop VV))
      have hn0 : 0 < (smyL drop VV).length := by omega
      rw [hs]
      obtain ⟨L, hL⟩ : ∃ L, smyL drop VV = L := ⟨_, rfl⟩
      rw [hL] at XV AI hl40 TX E1 FS GT FA hn0 ⊢
      clear hs hl0 hit hm hL
      obtain ⟨n, hn⟩ : ∃ n, L.length = n := ⟨_, rfl⟩
      rw [hn] at AI hl40 FS FA hn0 ⊢
      obtain ⟨f, hf⟩ : ∃ f : Nat → It, exF lg L = f := ⟨_, rfl⟩
      rw [hf] at E1 FS GT FA
      obtain ⟨Z, hZ⟩ : ∃ Z, extL lg L = Z := ⟨_, rfl⟩
      rw [hZ] at FA XV
      clear hn hf hZ
      have hnb : ((n : Int) == 0) = false := beq_eq_false_iff_ne.2 (by omega)
      obtain ⟨b0, o0, rfl, hb0, d0, d1, d2'⟩ := AI.out 0 hn0
      have d2 : w2.cell? ⟨b0, o0 + 0 * 3 + 2, none⟩ = some (.string (L.getD 0 noI).t) := d2'
      rw [← E1.out] at d0 d1 d2
      clear d2' E1
      simp only [Nat.zero_mul, Nat.add_zero] at d0 d1 d2
      go_upto_region 7 with (fail)
      obtain ⟨w3, hw3⟩ : ∃ W, w2.alloc (.cells #[.int .i64 (f 1).n, .int .i64 (f 1).d, .string (f 1).t] 66) = W := ⟨_, rfl⟩
      have B3 := Lib.hid (show Below w2.heap.size w2 w3 from hw3 ▸ below1 w2 _)
      have KF := Lib.hid (show w3.heap[w2.heap.size]? = some (.cells #[.int .i64 (f 1).n, .int .i64 (f 1).d, .string (f 1).t] 66 (0, 0)) from hw3 ▸ blk_new w2 _ rfl)
      rw [hw3]
      clear hw3 d0 d1 d2
      obtain ⟨g, hg⟩ : ∃ g, w2.heap.size = g := ⟨_, rfl⟩
      have hwg : w2.heap.size ≤ g := Nat.le_of_eq hg
      rw [hg] at KF ⊢
      clear hg
      go_wp2
      go_loopw [11] (fun i wr => ∃ k : Nat, 1 ≤ k ∧ k ≤ n ∧ i = .int .i64 k ∧ Below w2.heap.size w2 wr ∧ wr.heap[g]? = some (.cells #[.int .i64 (f k).n, .int .i64 (f k).d, .string (f k).t] 66 (0, 0))) (fun i _ => n - (intOf i).toNat)
      case atStart => exact ⟨1, Nat.le_refl _, hn0, rfl, B3.out, KF.out⟩
      case round =>
        obtain ⟨k, hk1, hk, rfl, hb, hf⟩ := hrel
        have BB := Lib.hid hb
        have KF := Lib.hid hf
        clear hb hf
        by_cases hlt : k < n
        · obtain ⟨ba, off, hab, hbw, c0, c1, c2⟩ := AI.out _ hlt
          simp only [Option.some.injEq, Addr.mk.injEq, and_true] at hab
          obtain ⟨rfl, rfl⟩ := hab
          have CX2 := Lib.hid (show w2.cell? ⟨b0, o0 + k * 3 + 2, none⟩ = some (.string (L.getD k noI).t) from c2)
          have CX0 := Lib.hid c0
          have CX1 := Lib.hid c1
          have TK := Lib.hid (TX.out k)
          have NX := Lib.hid (FS.out k hk1 hlt)
          obtain ⟨x, hx⟩ : ∃ x, L.getD k noI = x := ⟨_, rfl⟩
          rw [hx] at c0 c1 CX0 CX1 CX2 NX TK
          have c2 : w2.cell? ⟨b0, o0 + k * 3 + 2, none⟩ = some (.string x.t) := CX2.out
          have r0 : wr.cell? ⟨b0, o0 + k * 3, none⟩ = _ := (BB.out.cell (p := ⟨b0, o0 + k * 3, none⟩) hbw).trans c0
          have r1 : wr.cell? ⟨b0, o0 + k * 3 + 1, none⟩ = _ := (BB.out.cell (p := ⟨b0, o0 + k * 3 + 1, none⟩) hbw).trans c1
          have r2 : wr.cell? ⟨b0, o0 + k * 3 + 2, none⟩ = _ := (BB.out.cell (p := ⟨b0, o0 + k * 3 + 2, none⟩) hbw).trans c2
          have R0 := Lib.hid r0
          have R1 := Lib.hid r1
          have R2 := Lib.hid r2
          clear hx c0 c1 c2 r0 r1 r2
          have CO := Lib.hid (fun W => specCmp x (f k) W TK.out (GT.out k))
          have H4 := cmp_four x (f k)
          have NX := Lib.hid (show f (k + 1) = if cmpI x (f k) = 2 then noI else if cmpI x (f k) = wantL lg then x else f k from NX.out)
          obtain ⟨q, hq⟩ : ∃ q, cmpI x (f k) = q := ⟨_, rfl⟩
          rw [hq] at CO H4 NX
          clear hq
          have hgr0 := (Array.getElem?_eq_some_iff.1 KF.out).1
          go_upto_region 10 with (fail)
          have H := Lib.hid (show HeldC w2 wr ([(g, 66, #[.int .i64 (f k).n, .int .i64 (f k).d, .string (f k).t])]) from heldC_cons ⟨BB.out, (fun _ h => by cases h)⟩ KF.out)
          refine run_region (ops := (opsOf Try.f37 10)) (S := fun w' => HeldC w2 w' ([(g, 66, #[.int .i64 ((f k).n), .int .i64 ((f k).d), .string (f k).t])])) [(0, true), (1, true), (2, true), (3, true), (4, true), (5, false), (6, true)] (by kernel_rfl) (by kernel_rfl) (by kernel_rfl) (by kernel_rfl) (by kernel_rfl) (fun _ _ _ _ _ h => h) (heldC_drew H.out) ?_
          have H := Lib.hid (heldC_drew H.out)
          refine run_mov (v := .slice (some ⟨b0, o0, none⟩) n c) (show opAt (opsOf Try.f37 10) 0 = some (some 36, .move (.tmp 8), none) from by kernel_rfl) (by kernel_rfl) (by kernel_rfl) (by kernel_rfl) ?_
          refine run_mov (v := .int .i64 ((k : Int))) (show opAt (opsOf Try.f37 10) 1 = some (some 37, .move (.tmp 11), none) from by kernel_rfl) (by kernel_rfl) (by kernel_rfl) (by kernel_rfl) ?_
          refine run_idx3 (n := n) (c := c) (b := b0) (off := o0) (k := k) (show opAt (opsOf Try.f37 10) 2 = some (some 38, .indexAddr 28 (.tmp 36) (.tmp 37), none) from by kernel_rfl) (by kernel_rfl) (by kernel_rfl) (by kernel_rfl) (by kernel_rfl) hlt ?_
          refine runC_oldI (b := b0) (j := o0 + k * 3) (z := x) (show opAt (opsOf Try.f37 10) 3 = some (some 39, .load 66 (.tmp 38), none) from by kernel_rfl) (by kernel_rfl) (by kernel_rfl) (by kernel_rfl) hbw CX0.out CX1.out CX2.out ?_
          refine runC_itm (b := g) (show opAt (opsOf Try.f37 10) 4 = some (some 40, .load 66 (.tmp 10), none) from by kernel_rfl) (by kernel_rfl) (by kernel_rfl) (by kernel_rfl) (List.Mem.head _) ?_
          refine run_call (args := [.agg #[.int .i64 x.n, .int .i64 x.d, .string x.t], .agg #[.int .i64 ((f k).n), .int .i64 ((f k).d), .string (f k).t]]) (show opAt (opsOf Try.f37 10) 5 = some (some 41, .call { callee := .value (.func 101), args := [(.tmp 39), (.tmp 40)].toArray, argTypes := [66, 66].toArray }, none) from by kernel_rfl) (by kernel_rfl) (by kernel_rfl) (by kernel_rfl) (by kernel_rfl) ?_
          refine (CO.out _).mono ?_
          rintro en rw1 ⟨rfl, hb⟩
          refine ⟨_, rfl, heldC_call H.out hb, ?_⟩
          have H := Lib.hid (heldC_call H.out hb)
          clear hb
          refine run_asg (v := .int .i64 q) (show opAt (opsOf Try.f37 10) 6 = some (some 12, .assign (.tmp 41), none) from by kernel_rfl) (by kernel_rfl) (by kernel_rfl) (by kernel_rfl) ?_
          refine run_done ?_
          simp only [putAll, Act.put, List.setIfInBounds_toArray, List.set_cons_zero, List.set_cons_succ]
          have HB := Lib.hid H.out.1
          have HF := Lib.hid (heldC_at H.out (List.Mem.head _))
          have X0 := Lib.hid ((H.out.1.cell (p := ⟨b0, o0 + k * 3, none⟩) hbw).trans CX0.out)
          have X1 := Lib.hid ((H.out.1.cell (p := ⟨b0, o0 + k * 3 + 1, none⟩) hbw).trans CX1.out)
          have X2 := Lib.hid ((H.out.1.cell (p := ⟨b0, o0 + k * 3 + 2, none⟩) hbw).trans CX2.out)
          have hbr : b0 < rw1.heap.size := Nat.lt_of_lt_of_le hbw H.out.1.size
          have hgr := (Array.getElem?_eq_some_iff.1 HF.out).1
          have hne : b0 ≠ g := by omega
          have x0 := X0.out
          have x1 := X1.out
          have x2 := X2.out
          obtain ⟨⟨y0, y1, y2⟩, q0, q1, q2⟩ := three HF.out
          clear H R0 R1 R2 CO TK CX0 CX1 CX2 X0 X1 X2
          rcases H4 with rfl | rfl | rfl | rfl <;> cases lg <;> (
            simp only [wantL] at NX
            have XZ := NX.out
            simp only [if_true, if_false, Int.reduceEq, Int.reduceNeg] at XZ
            have NZ := Lib.hid XZ
            clear NX XZ
            go_wp2
            go_roundw
            case rel => first
              | exact ⟨k + 1, by omega, by omega, by go_num, HB.out, by rw [NZ.out]; exact HF.out⟩
              | exact ⟨k + 1, by omega, by omega, by go_num, below_three HB.out (by omega) _ _ _, by rw [NZ.out]; exact cells_set3 HF.out⟩
            case measure => simp [intOf]; omega)
        · obtain rfl : k = n := by omega
          have KF := Lib.hid (FA.out ▸ KF.out)
          have BW := Lib.hid (below_then B2.out BB.out)
          have KR := Lib.hid (blk_below BB.out KR.out)
          obtain ⟨⟨y0, y1, y2⟩, _⟩ := three KF.out
          go_wp2_with fail
          with_reducible refine ((specOne6 Z _)).mono ?_
          rintro e w9 ⟨y, rfl, ho, b⟩
          obtain ⟨yk, ya1, yn1, ym1, ya2, yn2, ym2, ya3, yn3, ym3, ya4, yn4, ym4, ya5, yn5, ym5, yc, ye, rfl⟩ := ho.agg
          have B9 := Lib.hid (below_then BW.out b)
          have hr1 := (Array.getElem?_eq_some_iff.1 KR.out).1
          have KR := Lib.hid (blk_below b KR.out)
          have HO := Lib.hid ho
          have hwz := BW.out.size
          clear ho b
          obtain ⟨z0, z1, z2, z3, z4, z5, z6, z7⟩ := vec8 KR.out
          obtain ⟨f0, f1, f2, f3, f4, f5, f6, f7⟩ := free8 KR.out
          go_wp2
          rw [XV.out, XS.out]
          exact vec_endS rfl rfl rfl rfl KR.out ⟨_, rfl, (HO.out.put8 hr1 _ _ _ _ _ _ _ _).wide (by omega) (by rw [put8_size]; exact Nat.le_refl _), put8_below B9.out (Nat.le_succ _)⟩
  · obtain ⟨XS, XV⟩ := ex_not hs lg drop
    have XS := Lib.hid XS
    have XV := Lib.hid XV
    obtain ⟨R, hR⟩ : ∃ R, smyS nonNumB VV = R := ⟨_, rfl⟩
    rw [hR] at hs XS ⊢
    have hRb : (R.toList == []) = false := by have h := str_not hs; rw [ByteArray.toList_eq ⟨#[]⟩] at h; exact h
    clear hs hR
    obtain ⟨z0, z1, z2, z3, z4, z5, z6, z7⟩ := vec8 KR.out
    obtain ⟨f0, f1, f2, f3, f4, f5, f6, f7⟩ := free8 KR.out
    go_wp2
    rw [XV.out, XS.out]
    exact vec_endS rfl rfl rfl rfl KR.out (zeroS _ w _ (put8_below B2.out (Nat.le_succ _)))
end Go.Proofs.Ytlnjjjoeblopeaa

/- Laws on two vectors: what a region that calls on both keeps. -/
namespace Go.Proofs.Ytlnjjjoeblopeaa
set_option maxRecDepth 100000
open Go.RowKit
set_option linter.unusedVariables false

/-- A vector that may be read. -/
structure VatH (d : Nat) (v : Vec) (y : Value) (w : World) : Prop where
  out : VecAt 0 w.heap.size w d v y
theorem VatH.keep {d : Nat} {v : Vec} {y : Value} {w w1 : World} (h : VatH d v y w) (hb : Below w.heap.size w w1) : VatH d v y w1 := ⟨VecAt.wide (Nat.le_refl _) hb.size _ _ _ (h.out.below hb (Nat.le_refl _))⟩
theorem ResV.vatH {d : Nat} {v : Vec} {y : Value} {lo : Nat} {w : World} (h : Own d v y lo w.heap.size w) : VatH d v y w := ⟨h.vat (Nat.le_refl _)⟩
/-- A vector of one's own in a range, kept. -/
structure OwnH (d : Nat) (V : Vec) (y : Value) (lo hi : Nat) (w : World) : Prop where
  own : Own d V y lo hi w
  hh : hi ≤ w.heap.size
theorem OwnH.keep {d : Nat} {V : Vec} {y : Value} {lo hi : Nat} {w w1 : World} (h : OwnH d V y lo hi w) (hb : Below w.heap.size w w1) : OwnH d V y lo hi w1 := ⟨h.own.below hb h.hh, Nat.le_trans h.hh hb.size⟩
theorem Own.rowO {d : Nat} {V : Vec} {y : Value} {lo hi g : Nat} {c : Array Value} {w : World} (h : Own d V y lo hi w) (hg : g < lo ∨ hi ≤ g) : Own d V y lo hi (w.setRow g c) := by
  obtain ⟨F, q1, q2, q3⟩ := h.out
  exact ⟨F, q1.kept _ _ _ _ (fun b hb => row_old rfl (by have := q3 b hb; omega)), q2, q3⟩
/-- A vector that was made and put into a variable of its own. -/
structure MadeU (V : Vec) (wk wx : World) (g : Nat) (C : Array Value) : Prop where
  blk : wx.heap[g]? = some (.cells C 31 (0, 0))
  own : Own 1 V (.agg C) wk.heap.size wx.heap.size wx
  below : Below wk.heap.size wk wx
  lo : wk.heap.size ≤ g
theorem MadeU.cells {V : Vec} {wk wx : World} {g : Nat} {C : Array Value} (h : MadeU V wk wx g C) : ∃ (k : Int) (a1 : Option Addr) (n1 m1 : Nat) (a2 : Option Addr) (n2 m2 : Nat) (a3 : Option Addr) (n3 m3 : Nat) (a4 : Option Addr) (n4 m4 : Nat) (a5 : Option Addr) (n5 m5 : Nat) (code env : Int), C = #[.int .i64 k, .slice a1 n1 m1, .slice a2 n2 m2, .slice a3 n3 m3, .slice a4 n4 m4, .slice a5 n5 m5, .int .i64 code, .int .i64 env] := by
  obtain ⟨k, a1, n1, m1, a2, n2, m2, a3, n3, m3, a4, n4, m4, a5, n5, m5, c, e, h'⟩ := h.own.agg
  simp only [Value.agg.injEq] at h'
  exact ⟨k, a1, n1, m1, a2, n2, m2, a3, n3, m3, a4, n4, m4, a5, n5, m5, c, e, h'⟩
section
variable {P : Program} {ops : Array Oper} {Q : Exit → Act → World → Prop} {S : World → Prop}
variable {r : List (Nat × Bool)} {a : Act} {e : List (Nat × Value)} {w : World} {i d : Nat} {g : Option (Nat × Bool)} {v : Value}
/-- A part of a call's several results. -/
theorem run_extract {x : Operand} {k : Nat} {vs : Array Value} (ho : opAt ops i = some (some d, .extract x k, g)) (hd : Nat.blt d a.tmps.size = true) (hw : wantE ops a e g = some true)
    (hx : lookO a e x = .tuple vs) (hv : vs[k]? = some v) (h : RunE P ops Q S r a ((d, v) :: e) w) : RunE P ops Q S ((i, true) :: r) a e w :=
  run_yield ho hd hw (fun o w' h1 _ => by
    unfold execOp; rw [h1]; simp only [hx]
    refine run_v ?_
    unfold Instr.extract
    simp only [hv]
    rfl) h
end
/-- A mark that goes on from k. -/
theorem markOwnK (d : Nat) (V : Vec) (y : Value) (k : Nat) (lo hi : Nat) (w : World) (h : Own d V y lo hi w) (hh : hi ≤ w.heap.size) (hs : Small d V) (hk : 1 ≤ k) (hc : k + cntM d V ≤ 8000000) :
    Calls Try.prog 19 #[y, .int .i64 k] w fun e w' => e = .returned (.int .i64 ((k + cntM d V : Nat) : Int)) ∧ Within lo hi w w' := by
  obtain ⟨F, h1, h2, h3⟩ := h.out
  refine (markVec d V y k F w h1 h2 (fun b hb => by have := h3 b hb; omega) hs hk hc).mono ?_
  rintro e w' ⟨rfl, ho, t⟩
  exact ⟨rfl, t.within h3⟩
end Go.Proofs.Ytlnjjjoeblopeaa
