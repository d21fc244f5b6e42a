/- ParseNumber, the program's. -/
import Derived.Test.YtmglolpiekbnpaaDoorNumPrsMath
import Derived.Test.YtmglolpiekbnpaaDoorParseImpl
import Derived.Test.YtmglolpiekbnpaaDoorMaxLen
import Derived.Test.YtmglolpiekbnpaaDoorLaid
import Derived.WalkKit
import Derived.WalkSpells
import Derived.WalkLawsBesides
import Derived.Lib.Hide
import Derived.RegionTactic
namespace Go.Proofs.YtmglolpiekbnpaaDoor
set_option maxRecDepth 100000
open Go.RowKit
set_option linter.unusedVariables false

/-- What the functions ask of the world: the listed variables, and the library's own one. -/
def MetN (w : World) : Prop := Lib.TabIs Tryd.prog w "internal/strconv.uint64pow10" .u64 Lib.pow10Tab ∧ ErrsMet w ∧ MaxMet w
theorem MetN.below {w w1 : World} (h : MetN w) (hb : Below w.heap.size w w1) : MetN w1 := ⟨tab_below h.1 hb, errs_below h.2.1 hb, h.2.2.below hb⟩
theorem cutS (s : ByteArray) (w : World) (hs : s.size ≤ 1048576) (hm : MetN w) :
    Calls Tryd.prog 40 #[.string s, .string ⟨#[47]⟩] w fun e w' => e = .returned (.tuple #[.string ⟨(Lib.cut s.data.toList [47]).1.toArray⟩, .string ⟨(Lib.cut s.data.toList [47]).2.1.toArray⟩, .bool (Lib.cut s.data.toList [47]).2.2]) ∧ Below w.heap.size w w' := by
  obtain ⟨m, hmm⟩ := hm.2.2
  exact (Tryd.strings_Cut s ⟨#[47]⟩ m w (by omega) hmm).mono fun _ _ ⟨he, n, hw⟩ => ⟨he, by subst hw; exact below_drewN' (Below.refl _ _) n⟩
theorem parseN (x : List UInt8) (a : Int) (b : Bool) (hx : x.length ≤ 1048576) (h : pVal x = (a, b)) :
    ∀ w1, MetN w1 → Calls Tryd.prog 41 #[.string ⟨x.toArray⟩] w1 fun e w' => e = .returned (.tuple #[.int .i64 a, .bool b]) ∧ Below w1.heap.size w1 w' := by
  intro w1 hm1
  have C := implParse ⟨x.toArray⟩ w1 (by show x.toArray.size ≤ _; simp; omega) hm1.1 hm1.2.1
  have e : (⟨x.toArray⟩ : ByteArray).data.toList = x := by simp
  rw [e, h] at C
  exact C
theorem size_l (s : ByteArray) : s.data.toList.length = s.size := rfl
theorem self_b (x : ByteArray) : (⟨x.data.toList.toArray⟩ : ByteArray) = x := by apply ByteArray.ext; simp

theorem cells_set3' {w : World} {g : Nat} {x y z a b c : Value} {t : TypeId} (hg : w.heap[g]? = some (.cells #[x, y, z] t (0, 0))) :
    (((w.setCell ⟨g, 0, none⟩ a).setCell ⟨g, 1, none⟩ b).setCell ⟨g, 2, none⟩ c).heap[g]? = some (.cells #[a, b, c] t (0, 0)) :=
  Joins.block_setCell (Joins.block_setCell (Joins.block_setCell hg a) b) c
set_option maxHeartbeats 2000000 in
theorem implRead (s : ByteArray) (n d : Int) (b : Bool) (w : World) (hs : s.size ≤ 1048576) (hm : MetN w) (h : prsF s.data.toList = (n, d, b)) :
    Calls Tryd.prog 22 #[.string s] w fun e w' => e = .returned (.tuple #[.agg #[.int .i64 n, .int .i64 d, .string ⟨#[]⟩], .bool b]) ∧ Below w.heap.size w w' := by
  have C0 := fun W hW => cutS s W hs hW
  have M := Lib.hid hm
  clear hm
  cases hc : slashCut s.data.toList with
  | none =>
    rw [prsF_none hc] at h
    rw [cutS_none hc, self_b] at C0
    have C := Lib.hid C0
    simp only [Prod.mk.injEq] at h
    obtain ⟨h1, rfl, h2⟩ := h
    have P0 := parseN s.data.toList n b hs (by rw [← h1, ← h2])
    rw [self_b] at P0
    have P1 := Lib.hid P0
    have P2 := Lib.hid (parseN [49] 1 true (by decide) one_read)
    clear C0 P0 h1 h2 hc
    cases b
    · go_enter Tryd.func22, Tryd.ntmps22
      go_wp2_with fail
      refine (C.out _ (M.out.below (below1 w _))).mono ?_
      rintro e w1 ⟨rfl, hb⟩
      have B1 := Lib.hid (below_then (below1 w _) hb)
      have G1 := Lib.hid (blk_below (g := w.heap.size) hb (blk_new _ _ rfl))
      clear hb
      go_wp2_with fail
      refine (P1.out _ (M.out.below B1.out)).mono ?_
      rintro e w2 ⟨rfl, hb⟩
      have B2 := Lib.hid (below_then B1.out hb)
      have G2 := Lib.hid (blk_below hb G1.out)
      clear hb
      go_wp2_with fail
      refine (P2.out _ (M.out.below B2.out)).mono ?_
      rintro e w3 ⟨rfl, hb⟩
      have B3 := Lib.hid (below_then B2.out hb)
      have G3 := Lib.hid (blk_below hb G2.out)
      clear hb
      obtain ⟨⟨c0, c1, c2⟩, f0, f1, f2⟩ := three G3.out
      go_wp2
      exact item_ret2 rfl rfl rfl rfl (cells_set3' G3.out) ⟨rfl, below_three B3.out (by omega) _ _ _⟩
    · go_enter Tryd.func22, Tryd.ntmps22
      go_wp2_with fail
      refine (C.out _ (M.out.below (below1 w _))).mono ?_
      rintro e w1 ⟨rfl, hb⟩
      have B1 := Lib.hid (below_then (below1 w _) hb)
      have G1 := Lib.hid (blk_below (g := w.heap.size) hb (blk_new _ _ rfl))
      clear hb
      go_wp2_with fail
      refine (P1.out _ (M.out.below B1.out)).mono ?_
      rintro e w2 ⟨rfl, hb⟩
      have B2 := Lib.hid (below_then B1.out hb)
      have G2 := Lib.hid (blk_below hb G1.out)
      clear hb
      go_wp2_with fail
      refine (P2.out _ (M.out.below B2.out)).mono ?_
      rintro e w3 ⟨rfl, hb⟩
      have B3 := Lib.hid (below_then B2.out hb)
      have G3 := Lib.hid (blk_below hb G2.out)
      clear hb
      obtain ⟨⟨c0, c1, c2⟩, f0, f1, f2⟩ := three G3.out
      go_wp2
      exact item_ret2 rfl rfl rfl rfl (cells_set3' G3.out) ⟨rfl, below_three B3.out (by omega) _ _ _⟩
  | some p =>
    obtain ⟨x, y⟩ := p
    rw [prsF_some hc] at h
    rw [cutS_some hc] at C0
    have hl := slash_len hc
    rw [size_l] at hl
    have C := Lib.hid C0
    simp only [Prod.mk.injEq] at h
    obtain ⟨h1, h2, h3⟩ := h
    cases b1 : (pVal x).2
    · have P1 := Lib.hid (parseN x n false (by omega) (by rw [← h1, ← b1]))
      have P2 := Lib.hid (parseN y d (pVal y).2 (by omega) (by rw [← h2]))
      obtain rfl : b = false := by rw [← h3, b1]; rfl
      clear C0 h1 h2 h3 hc hl
      go_enter Tryd.func22, Tryd.ntmps22
      go_wp2_with fail
      refine (C.out _ (M.out.below (below1 w _))).mono ?_
      rintro e w1 ⟨rfl, hb⟩
      have B1 := Lib.hid (below_then (below1 w _) hb)
      have G1 := Lib.hid (blk_below (g := w.heap.size) hb (blk_new _ _ rfl))
      clear hb
      go_wp2_with fail
      refine (P1.out _ (M.out.below B1.out)).mono ?_
      rintro e w2 ⟨rfl, hb⟩
      have B2 := Lib.hid (below_then B1.out hb)
      have G2 := Lib.hid (blk_below hb G1.out)
      clear hb
      go_wp2_with fail
      refine (P2.out _ (M.out.below B2.out)).mono ?_
      rintro e w3 ⟨rfl, hb⟩
      have B3 := Lib.hid (below_then B2.out hb)
      have G3 := Lib.hid (blk_below hb G2.out)
      clear hb
      obtain ⟨⟨c0, c1, c2⟩, f0, f1, f2⟩ := three G3.out
      go_wp2
      exact item_ret2 rfl rfl rfl rfl (cells_set3' G3.out) ⟨rfl, below_three B3.out (by omega) _ _ _⟩
    · have P1 := Lib.hid (parseN x n true (by omega) (by rw [← h1, ← b1]))
      have P2 := Lib.hid (parseN y d b (by omega) (by rw [← h2, ← h3, b1]; rfl))
      clear C0 h1 h2 h3 hc hl
      cases b
      · go_enter Tryd.func22, Tryd.ntmps22
        go_wp2_with fail
        refine (C.out _ (M.out.below (below1 w _))).mono ?_
        rintro e w1 ⟨rfl, hb⟩
        have B1 := Lib.hid (below_then (below1 w _) hb)
        have G1 := Lib.hid (blk_below (g := w.heap.size) hb (blk_new _ _ rfl))
        clear hb
        go_wp2_with fail
        refine (P1.out _ (M.out.below B1.out)).mono ?_
        rintro e w2 ⟨rfl, hb⟩
        have B2 := Lib.hid (below_then B1.out hb)
        have G2 := Lib.hid (blk_below hb G1.out)
        clear hb
        go_wp2_with fail
        refine (P2.out _ (M.out.below B2.out)).mono ?_
        rintro e w3 ⟨rfl, hb⟩
        have B3 := Lib.hid (below_then B2.out hb)
        have G3 := Lib.hid (blk_below hb G2.out)
        clear hb
        obtain ⟨⟨c0, c1, c2⟩, f0, f1, f2⟩ := three G3.out
        go_wp2
        exact item_ret2 rfl rfl rfl rfl (cells_set3' G3.out) ⟨rfl, below_three B3.out (by omega) _ _ _⟩
      · go_enter Tryd.func22, Tryd.ntmps22
        go_wp2_with fail
        refine (C.out _ (M.out.below (below1 w _))).mono ?_
        rintro e w1 ⟨rfl, hb⟩
        have B1 := Lib.hid (below_then (below1 w _) hb)
        have G1 := Lib.hid (blk_below (g := w.heap.size) hb (blk_new _ _ rfl))
        clear hb
        go_wp2_with fail
        refine (P1.out _ (M.out.below B1.out)).mono ?_
        rintro e w2 ⟨rfl, hb⟩
        have B2 := Lib.hid (below_then B1.out hb)
        have G2 := Lib.hid (blk_below hb G1.out)
        clear hb
        go_wp2_with fail
        refine (P2.out _ (M.out.below B2.out)).mono ?_
        rintro e w3 ⟨rfl, hb⟩
        have B3 := Lib.hid (below_then B2.out hb)
        have G3 := Lib.hid (blk_below hb G2.out)
        clear hb
        obtain ⟨⟨c0, c1, c2⟩, f0, f1, f2⟩ := three G3.out
        go_wp2
        exact item_ret2 rfl rfl rfl rfl (cells_set3' G3.out) ⟨rfl, below_three B3.out (by omega) _ _ _⟩

set_option maxHeartbeats 2000000 in
theorem implPrs (s : ByteArray) (w : World) (hs : s.size ≤ 1048576) (hm : MetN w) :
    Calls Tryd.prog 7 #[.string s] w fun e w' => e = .returned (.tuple #[.agg #[.int .i64 (prsI s).1.n, .int .i64 (prsI s).1.d, .string (prsI s).1.t], .bool (prsI s).2]) ∧ Below w.heap.size w w' := by
  have NA : ∀ {b : Bool}, (s.toList == [78, 65]) = b → (b = true → s.data.toList = [78, 65]) ∧ (b = false → s.data.toList ≠ [78, 65]) := by
    intro b hb
    rw [ByteArray.toList_eq] at hb
    constructor
    · rintro rfl; simpa using hb
    · rintro rfl h; rw [h] at hb; simp at hb
  have M := Lib.hid hm
  clear hm
  cases e : (s.toList == [78, 65])
  · have hne := (NA e).2 rfl
    obtain ⟨n, hn⟩ : ∃ n, (prsF s.data.toList).1 = n := ⟨_, rfl⟩
    obtain ⟨d, hd⟩ : ∃ d, (prsF s.data.toList).2.1 = d := ⟨_, rfl⟩
    obtain ⟨b, hb0⟩ : ∃ b, (prsF s.data.toList).2.2 = b := ⟨_, rfl⟩
    have hp : prsF s.data.toList = (n, d, b) := by rw [← hn, ← hd, ← hb0]
    have hi := prsF_in s.data.toList
    rw [hn, hd] at hi
    have R := Lib.hid (fun W hW => implRead s n d b W hs hW hp)
    clear hn hd hb0
    cases b
    · have X := Lib.hid (prs_bad hne hp (.inl rfl))
      clear hne hp NA hi
      go_enter Tryd.func7, Tryd.ntmps7
      go_wp2_with fail
      refine (R.out _ (M.out.below (below1 w _))).mono ?_
      rintro e w1 ⟨rfl, hb⟩
      have B1 := Lib.hid (below_then (below1 w _) hb)
      have G1 := Lib.hid (blk_below (g := w.heap.size) hb (blk_new _ _ rfl))
      have hz : w.heap.size < w1.heap.size := (Array.getElem?_eq_some_iff.1 G1.out).1
      clear hb
      obtain ⟨⟨c0, c1, c2⟩, f0, f1, f2⟩ := three G1.out
      have hz' : w.heap.size ≤ w1.heap.size := by omega
      go_wp2
      rw [X.out]
      exact item_ret2 rfl rfl rfl rfl (blk_old (cells_set3' G1.out)) ⟨rfl, (below_three B1.out (Nat.le_refl _) _ _ _).alloc (by simp; omega) _⟩
    · have ht := implTxI n d ⟨#[]⟩
      obtain ⟨A, hA⟩ : ∃ A, txI ⟨n, d, ⟨#[]⟩⟩ = A := ⟨_, rfl⟩
      rw [hA] at ht
      have T := Lib.hid (fun W tb => ht W (by decide) tb)
      have hA' : txI (fr n d) = A := hA
      cases k : (A.toList == s.toList)
      · have X := Lib.hid (prs_bad hne hp (.inr (fun h => by rw [hA'] at h; rw [h] at k; simp at k)))
        clear hne hp NA hi ht hA hA'
        go_enter Tryd.func7, Tryd.ntmps7
        go_wp2_with fail
        refine (R.out _ (M.out.below (below1 w _))).mono ?_
        rintro e w1 ⟨rfl, hb⟩
        have B1 := Lib.hid (below_then (below1 w _) hb)
        have G1 := Lib.hid (blk_below (g := w.heap.size) hb (blk_new _ _ rfl))
        have hz : w.heap.size < w1.heap.size := (Array.getElem?_eq_some_iff.1 G1.out).1
        clear hb
        go_wp2_with fail
        refine (T.out _ (tab_below (M.out.below B1.out).1 (below1 w1 _))).mono ?_
        rintro e w2 ⟨rfl, hb⟩
        have B2 := Lib.hid ((B1.out.alloc B1.out.size _).trans (hb.mono (by have := B1.out.size; simp; omega)))
        have G2 := Lib.hid (blk_below hb (blk_old G1.out))
        have K2 := Lib.hid (blk_below (g := w1.heap.size) hb (blk_new _ _ rfl))
        have hz2 : w1.heap.size < w2.heap.size := (Array.getElem?_eq_some_iff.1 K2.out).1
        have hz3 : w.heap.size < w2.heap.size := by omega
        clear hb
        obtain ⟨⟨c0, c1, c2⟩, f0, f1, f2⟩ := three G2.out
        go_wp2
        rw [X.out]
        exact item_ret2 rfl rfl rfl rfl (cells_set3' G2.out) ⟨rfl, below_three B2.out (by omega) _ _ _⟩
      · have X := Lib.hid (prs_good hne hp (by rw [hA']; rw [ByteArray.toList_eq, ByteArray.toList_eq] at k; exact ByteArray.ext (Array.toList_inj.1 (by simpa using k))))
        clear hne hp NA hi ht hA hA'
        go_enter Tryd.func7, Tryd.ntmps7
        go_wp2_with fail
        refine (R.out _ (M.out.below (below1 w _))).mono ?_
        rintro e w1 ⟨rfl, hb⟩
        have B1 := Lib.hid (below_then (below1 w _) hb)
        have G1 := Lib.hid (blk_below (g := w.heap.size) hb (blk_new _ _ rfl))
        have hz : w.heap.size < w1.heap.size := (Array.getElem?_eq_some_iff.1 G1.out).1
        clear hb
        go_wp2_with fail
        refine (T.out _ (tab_below (M.out.below B1.out).1 (below1 w1 _))).mono ?_
        rintro e w2 ⟨rfl, hb⟩
        have B2 := Lib.hid ((B1.out.alloc B1.out.size _).trans (hb.mono (by have := B1.out.size; simp; omega)))
        have G2 := Lib.hid (blk_below hb (blk_old G1.out))
        have K2 := Lib.hid (blk_below (g := w1.heap.size) hb (blk_new _ _ rfl))
        have hz2 : w1.heap.size < w2.heap.size := (Array.getElem?_eq_some_iff.1 K2.out).1
        have hz3 : w.heap.size < w2.heap.size := by omega
        clear hb
        obtain ⟨⟨d0, d1, d2⟩, _, _, _⟩ := three K2.out
        obtain ⟨⟨c0, c1, c2⟩, f0, f1, f2⟩ := three G2.out
        go_wp2
        rw [X.out]
        unfold fr
        exact item_ret2 rfl rfl rfl rfl (cells_set3' G2.out) ⟨rfl, below_three B2.out (by omega) _ _ _⟩
  · have X := Lib.hid (prs_na ((NA e).1 rfl))
    clear NA
    go_enter Tryd.func7, Tryd.ntmps7
    go_wp2
    rw [X.out]
    exact item_ret2 rfl rfl rfl rfl (blk_new _ _ rfl) ⟨rfl, below1 w _⟩
end Go.Proofs.YtmglolpiekbnpaaDoor
