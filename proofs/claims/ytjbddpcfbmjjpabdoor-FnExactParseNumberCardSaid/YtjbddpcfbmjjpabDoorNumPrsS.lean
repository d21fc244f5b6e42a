/- ParseNumber, the reference's. -/
import Derived.Test.YtjbddpcfbmjjpabDoorNumPrs
import Derived.Test.YtjbddpcfbmjjpabDoorParseSpec
import Derived.Test.YtjbddpcfbmjjpabDoorNumSpecMake
import Derived.WalkKit
import Derived.WalkSpells
import Derived.WalkLawsBesides
import Derived.Lib.Hide
import Derived.RegionTactic
namespace Go.Proofs.YtjbddpcfbmjjpabDoor
open Go.RowKit
set_option linter.unusedVariables false

theorem getS (s : ByteArray) (k : Nat) (hk : k < s.size) : s.data.toList[k]? = some (s[k]'hk) := by
  rw [List.getElem?_eq_getElem (show k < s.data.toList.length from hk)]; rfl
theorem NoSlash.zero (l : List UInt8) : NoSlash l 0 := fun _ h => absurd h (Nat.not_lt_zero _)
theorem NoSlash.next {s : ByteArray} {k : Nat} (h : NoSlash s.data.toList k) (hk : k < s.size) (hc : (s[k]'hk).toNat ≠ 47) : NoSlash s.data.toList (k + 1) := by
  intro j hj
  by_cases e : j = k
  · subst e
    rw [getS s j hk]
    intro h'
    exact hc (by have := Option.some.inj h'; rw [this]; rfl)
  · exact h j (by omega)
theorem slash_end {s : ByteArray} {k : Nat} (h : NoSlash s.data.toList k) (hk : s.size ≤ k) : slashCut s.data.toList = none :=
  slash_none _ (fun j hj => h j (by rw [size_l] at hj; omega))
theorem slash_hit {s : ByteArray} {k : Nat} (h : NoSlash s.data.toList k) (hk : k < s.size) (hc : (s[k]'hk).toNat = 47) : slashCut s.data.toList = some (s.data.toList.take k, s.data.toList.drop (k + 1)) :=
  slash_at _ k h (by rw [getS s k hk]; congr 1; exact UInt8.toNat_inj.1 (by rw [hc]; rfl))
theorem ext_take (s : ByteArray) (k : Nat) : (s.extract 0 k).data.toList = s.data.toList.take k := by rw [Lib.extract_data]; simp
theorem ext_drop (s : ByteArray) (k : Nat) : (s.extract k s.size).data.toList = s.data.toList.drop k := by
  rw [Lib.extract_data]; apply List.take_of_length_le; simp
theorem parseS (x : ByteArray) (l : List UInt8) (a : Int) (b : Bool) (hx : x.size ≤ 1048576) (hl : x.data.toList = l) (h : pVal l = (a, b)) :
    ∀ w1, Calls Tryd.prog 16 #[.string x] w1 fun e w' => e = .returned (.tuple #[.int .i64 a, .bool b]) ∧ w1 = w' := by
  intro w1
  have C := specParse x w1 (by unfold maxLen; omega)
  rw [hl, h] at C
  exact C
theorem mkI_eta (n d : Int) : (⟨(mkI n d).n, (mkI n d).d, ⟨#[]⟩⟩ : It) = mkI n d := It.ext' rfl rfl (mkI_t n d).symm

set_option maxHeartbeats 4000000 in
theorem specPrs (s : ByteArray) (w : World) (hs : s.size ≤ 1048576) :
    Calls Tryd.prog 9 #[.string s] w fun e w' => e = .returned (.tuple #[.agg #[.int .i64 (prsI s).1.n, .int .i64 (prsI s).1.d, .string (prsI s).1.t], .bool (prsI s).2]) ∧ Below w.heap.size w w' := by
  have NA : ∀ {b : Bool}, (s.toList == [78, 65]) = b → (b = true → s.data.toList = [78, 65]) ∧ (b = false → s.data.toList ≠ [78, 65]) := by
    intro b hb
    rw [ByteArray.toList_eq] at hb
    constructor
    · rintro rfl; simpa using hb
    · rintro rfl h; rw [h] at hb; simp at hb
  cases e : (s.toList == [78, 65])
  · have hne := (NA e).2 rfl
    clear NA
    have NE := Lib.hid hne
    clear hne
    go_enter Tryd.func9, Tryd.ntmps9
    go_wp2
    go_loop [4] (fun kv => ∃ k : Nat, kv = .int .i64 k ∧ k ≤ s.size ∧ NoSlash s.data.toList k) (fun kv => s.size - (intOf kv).toNat)
    case atStart => exact ⟨0, rfl, Nat.zero_le _, NoSlash.zero _⟩
    case round =>
      obtain ⟨k, rfl, hk, hno⟩ := hrel
      have NO := Lib.hid hno
      clear hno
      have hxs : (s.extract 0 k).size ≤ 1048576 := by simp; omega
      by_cases hlt : k < s.size
      · by_cases h47 : (s[k]'hlt).toNat = 47
        · have hneq : (((s[k]'hlt).toNat : Int) != 47) = false := by simp [h47]
          have hc := slash_hit NO.out hlt h47
          have hys : (s.extract (k + 1) s.size).size ≤ 1048576 := by simp; omega
          obtain ⟨n, hn⟩ : ∃ n, (pVal (s.data.toList.take k)).1 = n := ⟨_, rfl⟩
          obtain ⟨d, hd⟩ : ∃ d, (pVal (s.data.toList.drop (k + 1))).1 = d := ⟨_, rfl⟩
          have hi := Lib.hid (show (-999999999 ≤ n ∧ n ≤ 999999999) ∧ (-999999999 ≤ d ∧ d ≤ 999999999) from ⟨hn ▸ pVal_in _, hd ▸ pVal_in _⟩)
          have hne := NE.out
          cases b1 : (pVal (s.data.toList.take k)).2
          · have P1 := Lib.hid (parseS _ _ n false hxs (ext_take s k) (by rw [← hn, ← b1]))
            have hp : prsF s.data.toList = (n, d, false) := by rw [prsF_some hc, hn, hd, b1]; rfl
            have X := Lib.hid (prs_bad hne hp (.inl rfl))
            have MM := Lib.hid (fun W => specMake n 1 W (by have := hi.out; omega) (by omega))
            clear hne hp hn hd hc b1 h47
            go_wp2_with fail
            refine (P1.out _).mono ?_
            rintro e w' ⟨rfl, rfl⟩
            go_wp2_with fail
            refine (MM.out _).mono ?_
            rintro e w1 ⟨rfl, hb⟩
            have B1 := Lib.hid (below_then (below1 w _) hb)
            have G1 := Lib.hid (blk_below (g := w.heap.size) hb (blk_new _ _ rfl))
            have hz : w.heap.size < w1.heap.size := (Array.getElem?_eq_some_iff.1 G1.out).1
            clear hb
            obtain ⟨⟨c0, c1, c2⟩, f0, f1, f2⟩ := three G1.out
            go_wp2
            rw [X.out]
            exact item_ret2 rfl rfl rfl rfl (blk_old (cells_set3' G1.out)) ⟨rfl, (below_three B1.out (Nat.le_refl _) _ _ _).alloc (by have := B1.out.size; simp; omega) _⟩
          · have P1 := Lib.hid (parseS _ _ n true hxs (ext_take s k) (by rw [← hn, ← b1]))
            cases b2 : (pVal (s.data.toList.drop (k + 1))).2
            · have P2 := Lib.hid (parseS _ _ d false hys (ext_drop s (k + 1)) (by rw [← hd, ← b2]))
              have hp : prsF s.data.toList = (n, d, false) := by rw [prsF_some hc, hn, hd, b1, b2]; rfl
              have X := Lib.hid (prs_bad hne hp (.inl rfl))
              have MM := Lib.hid (fun W => specMake n d W (by have := hi.out; omega) (by have := hi.out; omega))
              clear hne hp hn hd hc b1 b2 h47
              go_wp2_with fail
              refine (P1.out _).mono ?_
              rintro e w' ⟨rfl, rfl⟩
              go_wp2_with fail
              refine (P2.out _).mono ?_
              rintro e w' ⟨rfl, rfl⟩
              go_wp2_with fail
              refine (MM.out _).mono ?_
              rintro e w1 ⟨rfl, hb⟩
              have B1 := Lib.hid (below_then (below1 w _) hb)
              have G1 := Lib.hid (blk_below (g := w.heap.size) hb (blk_new _ _ rfl))
              have hz : w.heap.size < w1.heap.size := (Array.getElem?_eq_some_iff.1 G1.out).1
              clear hb
              obtain ⟨⟨c0, c1, c2⟩, f0, f1, f2⟩ := three G1.out
              go_wp2
              rw [X.out]
              exact item_ret2 rfl rfl rfl rfl (blk_old (cells_set3' G1.out)) ⟨rfl, (below_three B1.out (Nat.le_refl _) _ _ _).alloc (by have := B1.out.size; simp; omega) _⟩
            · have P2 := Lib.hid (parseS _ _ d true hys (ext_drop s (k + 1)) (by rw [← hd, ← b2]))
              have hp : prsF s.data.toList = (n, d, true) := by rw [prsF_some hc, hn, hd, b1, b2]; rfl
              clear hn hd hc b1 b2 h47
              have MM := Lib.hid (fun W => specMake n d W (by have := hi.out; omega) (by have := hi.out; omega))
              have SM := Lib.hid (prs_same hne hp)
              have ht := specTxI (mkI n d).n (mkI n d).d ⟨#[]⟩
              obtain ⟨A, hA⟩ : ∃ A, txI ⟨(mkI n d).n, (mkI n d).d, ⟨#[]⟩⟩ = A := ⟨_, rfl⟩
              rw [hA] at ht
              have T := Lib.hid (fun W => ht W (by decide))
              rw [mkI_eta] at hA
              cases kk : (A.toList == s.toList)
              · have X := Lib.hid (prs_bad hne hp (.inr (fun h => by
                  have e1 := SM.out.1 h
                  rw [e1, h] at hA
                  rw [← hA] at kk; simp at kk)))
                clear hne hp ht hA SM
                go_wp2_with fail
                refine (P1.out _).mono ?_
                rintro e w' ⟨rfl, rfl⟩
                go_wp2_with fail
                refine (P2.out _).mono ?_
                rintro e w' ⟨rfl, rfl⟩
                go_wp2_with fail
                refine (MM.out _).mono ?_
                rintro e w1 ⟨rfl, hb⟩
                have B1 := Lib.hid (below_then (below1 w _) hb)
                have G1 := Lib.hid (blk_below (g := w.heap.size) hb (blk_new _ _ rfl))
                have hz : w.heap.size < w1.heap.size := (Array.getElem?_eq_some_iff.1 G1.out).1
                clear hb
                go_wp2_with fail
                refine (T.out _).mono ?_
                rintro e w2 ⟨rfl, hb⟩
                have B2 := Lib.hid ((B1.out.alloc B1.out.size _).trans (hb.mono (by have := B1.out.size; simp; omega)))
                have G2 := Lib.hid (blk_below hb (blk_old G1.out))
                have K2 := Lib.hid (blk_below (g := w1.heap.size) hb (blk_new _ _ rfl))
                have hz2 : w1.heap.size < w2.heap.size := (Array.getElem?_eq_some_iff.1 K2.out).1
                have hz3 : w.heap.size < w2.heap.size := by omega
                clear hb
                obtain ⟨⟨d0, d1, d2⟩, _, _, _⟩ := three K2.out
                obtain ⟨⟨c0, c1, c2⟩, f0, f1, f2⟩ := three G2.out
                go_wp2
                rw [X.out]
                exact item_ret2 rfl rfl rfl rfl (cells_set3' G2.out) ⟨rfl, below_three B2.out (by omega) _ _ _⟩
              · have hs' : txI (mkI n d) = s := by
                  rw [hA]; rw [ByteArray.toList_eq, ByteArray.toList_eq] at kk; exact ByteArray.ext (Array.toList_inj.1 (by simpa using kk))
                have E := Lib.hid (SM.out.2 hs')
                have X := Lib.hid (show prsI s = (mkI n d, true) by rw [E.out]; exact prs_good hne hp (by rw [← E.out]; exact hs'))
                have XT := Lib.hid (mkI_t n d)
                clear hne hp ht hA SM hs'
                go_wp2_with fail
                refine (P1.out _).mono ?_
                rintro e w' ⟨rfl, rfl⟩
                go_wp2_with fail
                refine (P2.out _).mono ?_
                rintro e w' ⟨rfl, rfl⟩
                go_wp2_with fail
                refine (MM.out _).mono ?_
                rintro e w1 ⟨rfl, hb⟩
                have B1 := Lib.hid (below_then (below1 w _) hb)
                have G1 := Lib.hid (blk_below (g := w.heap.size) hb (blk_new _ _ rfl))
                have hz : w.heap.size < w1.heap.size := (Array.getElem?_eq_some_iff.1 G1.out).1
                clear hb
                go_wp2_with fail
                refine (T.out _).mono ?_
                rintro e w2 ⟨rfl, hb⟩
                have B2 := Lib.hid ((B1.out.alloc B1.out.size _).trans (hb.mono (by have := B1.out.size; simp; omega)))
                have G2 := Lib.hid (blk_below hb (blk_old G1.out))
                have K2 := Lib.hid (blk_below (g := w1.heap.size) hb (blk_new _ _ rfl))
                have hz2 : w1.heap.size < w2.heap.size := (Array.getElem?_eq_some_iff.1 K2.out).1
                have hz3 : w.heap.size < w2.heap.size := by omega
                clear hb
                obtain ⟨⟨d0, d1, d2⟩, _, _, _⟩ := three K2.out
                obtain ⟨⟨c0, c1, c2⟩, f0, f1, f2⟩ := three G2.out
                go_wp2
                rw [X.out]
                rw [XT.out]
                exact item_ret2 rfl rfl rfl rfl (cells_set3' G2.out) ⟨rfl, below_three B2.out (by omega) _ _ _⟩
        · have hneq : (((s[k]'hlt).toNat : Int) != 47) = true := by simp; omega
          have R := Lib.hid (NO.out.next hlt h47)
          clear h47
          go_wp2
          go_round
          case rel => exact ⟨k + 1, by go_num, hlt, R.out⟩
          case measure => simp [intOf]; omega
      · have hend : s.size ≤ k := by omega
        have hc := slash_end NO.out hend
        have hall : s.data.toList.take k = s.data.toList := List.take_of_length_le (by rw [size_l]; exact hend)
        obtain ⟨n, hn⟩ : ∃ n, (pVal s.data.toList).1 = n := ⟨_, rfl⟩
        obtain ⟨d, hd⟩ : ∃ d : Int, 1 = d := ⟨_, rfl⟩
        have hi := Lib.hid (show (-999999999 ≤ n ∧ n ≤ 999999999) ∧ (-999999999 ≤ d ∧ d ≤ 999999999) from ⟨hn ▸ pVal_in _, by omega⟩)
        have hne := NE.out
        cases b1 : (pVal s.data.toList).2
        · have P1 := Lib.hid (parseS _ _ n false hxs ((ext_take s k).trans hall) (by rw [← hn, ← b1]))
          have hp : prsF s.data.toList = (n, 1, false) := by rw [prsF_none hc, hn, b1]
          have X := Lib.hid (prs_bad hne hp (.inl rfl))
          have MM := Lib.hid (fun W => specMake n 1 W (by have := hi.out; omega) (by omega))
          clear hne hp hn hd hc b1 hall
          go_wp2_with fail
          refine (P1.out _).mono ?_
          rintro e w' ⟨rfl, rfl⟩
          go_wp2_with fail
          refine (MM.out _).mono ?_
          rintro e w1 ⟨rfl, hb⟩
          have B1 := Lib.hid (below_then (below1 w _) hb)
          have G1 := Lib.hid (blk_below (g := w.heap.size) hb (blk_new _ _ rfl))
          have hz : w.heap.size < w1.heap.size := (Array.getElem?_eq_some_iff.1 G1.out).1
          clear hb
          obtain ⟨⟨c0, c1, c2⟩, f0, f1, f2⟩ := three G1.out
          go_wp2
          rw [X.out]
          exact item_ret2 rfl rfl rfl rfl (blk_old (cells_set3' G1.out)) ⟨rfl, (below_three B1.out (Nat.le_refl _) _ _ _).alloc (by have := B1.out.size; simp; omega) _⟩
        · have P1 := Lib.hid (parseS _ _ n true hxs ((ext_take s k).trans hall) (by rw [← hn, ← b1]))
          subst hd
          have hp : prsF s.data.toList = (n, 1, true) := by rw [prsF_none hc, hn, b1]
          clear hn hc b1 hall
          have MM := Lib.hid (fun W => specMake n 1 W (by have := hi.out; omega) (by have := hi.out; omega))
          have SM := Lib.hid (prs_same hne hp)
          have ht := specTxI (mkI n 1).n (mkI n 1).d ⟨#[]⟩
          obtain ⟨A, hA⟩ : ∃ A, txI ⟨(mkI n 1).n, (mkI n 1).d, ⟨#[]⟩⟩ = A := ⟨_, rfl⟩
          rw [hA] at ht
          have T := Lib.hid (fun W => ht W (by decide))
          rw [mkI_eta] at hA
          cases kk : (A.toList == s.toList)
          · have X := Lib.hid (prs_bad hne hp (.inr (fun h => by
              have e1 := SM.out.1 h
              rw [e1, h] at hA
              rw [← hA] at kk; simp at kk)))
            clear hne hp ht hA SM
            go_wp2_with fail
            refine (P1.out _).mono ?_
            rintro e w' ⟨rfl, rfl⟩
            go_wp2_with fail
            refine (MM.out _).mono ?_
            rintro e w1 ⟨rfl, hb⟩
            have B1 := Lib.hid (below_then (below1 w _) hb)
            have G1 := Lib.hid (blk_below (g := w.heap.size) hb (blk_new _ _ rfl))
            have hz : w.heap.size < w1.heap.size := (Array.getElem?_eq_some_iff.1 G1.out).1
            clear hb
            go_wp2_with fail
            refine (T.out _).mono ?_
            rintro e w2 ⟨rfl, hb⟩
            have B2 := Lib.hid ((B1.out.alloc B1.out.size _).trans (hb.mono (by have := B1.out.size; simp; omega)))
            have G2 := Lib.hid (blk_below hb (blk_old G1.out))
            have K2 := Lib.hid (blk_below (g := w1.heap.size) hb (blk_new _ _ rfl))
            have hz2 : w1.heap.size < w2.heap.size := (Array.getElem?_eq_some_iff.1 K2.out).1
            have hz3 : w.heap.size < w2.heap.size := by omega
            clear hb
            obtain ⟨⟨d0, d1, d2⟩, _, _, _⟩ := three K2.out
            obtain ⟨⟨c0, c1, c2⟩, f0, f1, f2⟩ := three G2.out
            go_wp2
            rw [X.out]
            exact item_ret2 rfl rfl rfl rfl (cells_set3' G2.out) ⟨rfl, below_three B2.out (by omega) _ _ _⟩
          · have hs' : txI (mkI n 1) = s := by
              rw [hA]; rw [ByteArray.toList_eq, ByteArray.toList_eq] at kk; exact ByteArray.ext (Array.toList_inj.1 (by simpa using kk))
            have E := Lib.hid (SM.out.2 hs')
            have X := Lib.hid (show prsI s = (mkI n 1, true) by rw [E.out]; exact prs_good hne hp (by rw [← E.out]; exact hs'))
            have XT := Lib.hid (mkI_t n 1)
            clear hne hp ht hA SM hs'
            go_wp2_with fail
            refine (P1.out _).mono ?_
            rintro e w' ⟨rfl, rfl⟩
            go_wp2_with fail
            refine (MM.out _).mono ?_
            rintro e w1 ⟨rfl, hb⟩
            have B1 := Lib.hid (below_then (below1 w _) hb)
            have G1 := Lib.hid (blk_below (g := w.heap.size) hb (blk_new _ _ rfl))
            have hz : w.heap.size < w1.heap.size := (Array.getElem?_eq_some_iff.1 G1.out).1
            clear hb
            go_wp2_with fail
            refine (T.out _).mono ?_
            rintro e w2 ⟨rfl, hb⟩
            have B2 := Lib.hid ((B1.out.alloc B1.out.size _).trans (hb.mono (by have := B1.out.size; simp; omega)))
            have G2 := Lib.hid (blk_below hb (blk_old G1.out))
            have K2 := Lib.hid (blk_below (g := w1.heap.size) hb (blk_new _ _ rfl))
            have hz2 : w1.heap.size < w2.heap.size := (Array.getElem?_eq_some_iff.1 K2.out).1
            have hz3 : w.heap.size < w2.heap.size := by omega
            clear hb
            obtain ⟨⟨d0, d1, d2⟩, _, _, _⟩ := three K2.out
            obtain ⟨⟨c0, c1, c2⟩, f0, f1, f2⟩ := three G2.out
            go_wp2
            rw [X.out]
            rw [XT.out]
            exact item_ret2 rfl rfl rfl rfl (cells_set3' G2.out) ⟨rfl, below_three B2.out (by omega) _ _ _⟩
  · have X := Lib.hid (prs_na ((NA e).1 rfl))
    clear NA
    go_enter Tryd.func9, Tryd.ntmps9
    go_wp2
    rw [X.out]
    exact item_ret2 rfl rfl rfl rfl (blk_new _ _ rfl) ⟨rfl, below1 w _⟩
end Go.Proofs.YtjbddpcfbmjjpabDoor
