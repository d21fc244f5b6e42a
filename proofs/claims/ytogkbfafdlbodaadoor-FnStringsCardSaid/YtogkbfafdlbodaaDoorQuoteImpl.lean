/- Quoted strings: the program's function, against one plain function. -/
import Derived.Test.YtogkbfafdlbodaaDoorRows
import Derived.Test.YtogkbfafdlbodaaDoorQuoteMath
import Derived.Test.YtogkbfafdlbodaaDoorBuilder
import Derived.WalkKit
import Derived.WalkSpells
import Derived.WalkLawsBesides
import Derived.Lib.Hide
namespace Go.Proofs.YtogkbfafdlbodaaDoor
open Go.RowKit Go.Lib

set_option maxHeartbeats 1000000 in
theorem implQByte (B b : Nat) (l : List UInt8) (c : UInt8) (w : World) (h : BW B b l w) (hlen : l.length + 4 ≤ 140737488355328) (hBw : B ≤ w.heap.size) :
    Calls Tryd.prog 32 #[.pointer (some ⟨b, 0, none⟩), .int .u8 c.toNat] w fun e w' => e = .returned (.tuple #[]) ∧ BW B b (l ++ quoteC c) w' ∧ Below B w w' := by
  have hb := c.toNat_lt
  by_cases e34 : (c.toNat : Int) = 34 ∨ (c.toNat : Int) = 92
  · have H := Lib.hid (show quoteC c = [92, c] by rw [quoteC, if_pos (by omega)])
    have d : (((c.toNat : Int) == 34) = true) ∨ (((c.toNat : Int) == 34) = false ∧ ((c.toNat : Int) == 92) = true) := by
      by_cases e : (c.toNat : Int) = 34
      · left; simp [e]
      · right; exact ⟨by simpa using e, by simp; omega⟩
    clear e34
    rcases d with d1 | ⟨d1, d2⟩
    all_goals
      go_enter Tryd.func32, Tryd.ntmps32
      go_wp2_with fail
      refine (wbyte B b l 92 92 rfl w h (by omega) hBw).mono ?_
      rintro e w1 ⟨rfl, h1, b1⟩
      go_wp2_with fail
      refine (wbyte B b _ _ c (by first | rfl | omega) w1 h1 (by simp; omega) (Nat.le_trans hBw b1.size)).mono ?_
      rintro e w2 ⟨rfl, h2, b2⟩
      go_wp2_with fail
      go_end0
      exact ⟨rfl, by rw [H.out]; simpa using h2, b1.trans b2⟩
  · have n34 : ((c.toNat : Int) == 34) = false := by simp; omega
    have n92 : ((c.toNat : Int) == 92) = false := by simp; omega
    by_cases e10 : (c.toNat : Int) = 10
    · have H := Lib.hid (show quoteC c = [92, 110] by rw [quoteC, if_neg (by omega), if_pos (by omega)])
      have h10 : ((c.toNat : Int) == 10) = true := by simp; omega
      clear e34 e10
      go_enter Tryd.func32, Tryd.ntmps32
      go_wp2_with fail
      refine (wstr B b l _ w h (by show _ + 2 ≤ _; omega) hBw).mono ?_
      rintro e w1 ⟨rfl, h1, b1⟩
      go_wp2_with fail
      go_end0
      exact ⟨rfl, by rw [H.out]; exact h1, b1⟩
    · have n10 : ((c.toNat : Int) == 10) = false := by simp; omega
      by_cases hx : (c.toNat : Int) < 32 ∨ 126 < (c.toNat : Int)
      · have H := Lib.hid (show quoteC c = [92, 120, hexC (c.toNat / 16), hexC (c.toNat % 16)] by rw [quoteC, if_neg (by omega), if_neg (by omega), if_pos (by omega)])
        have ha := and15_u8 c
        clear e34 e10
        go_enter Tryd.func32, Tryd.ntmps32
        go_wp2_with fail
        all_goals
          refine (wstr B b l _ w h (by show _ + 2 ≤ _; omega) hBw).mono ?_
          rintro e w1 ⟨rfl, h1, b1⟩
          go_wp2_with fail
          refine (wbyte B b _ _ (hexC (c.toNat / 16)) (hex_at _ (by omega) _) w1 h1 (by simp; omega) (Nat.le_trans hBw b1.size)).mono ?_
          rintro e w2 ⟨rfl, h2, b2⟩
          go_wp2_with fail
          refine (wbyte B b _ _ (hexC (c.toNat % 16)) (hex_at _ (by omega) _) w2 h2 (by simp; omega) (Nat.le_trans hBw (b1.trans b2).size)).mono ?_
          rintro e w3 ⟨rfl, h3, b3⟩
          go_wp2_with fail
          go_end0
          exact ⟨rfl, by rw [H.out]; simpa using h3, (b1.trans b2).trans b3⟩
      · have H := Lib.hid (show quoteC c = [c] by rw [quoteC, if_neg (by omega), if_neg (by omega), if_neg (by omega)])
        have hd1 : 32 ≤ (c.toNat : Int) := by omega
        have hd2 : (c.toNat : Int) ≤ 126 := by omega
        clear e34 e10 hx
        go_enter Tryd.func32, Tryd.ntmps32
        go_wp2_with fail
        refine (wbyte B b _ _ c rfl w h (by omega) hBw).mono ?_
        rintro e w1 ⟨rfl, h1, b1⟩
        go_wp2_with fail
        go_end0
        exact ⟨rfl, by rw [H.out]; exact h1, b1⟩

set_option maxHeartbeats 1000000 in
theorem implQuote (s : ByteArray) (w : World) (hs : s.size ≤ 1048576) :
    Calls Tryd.prog 10 #[.string s] w fun e w' => e = .returned (.string ⟨(quoteL s.data.toList).toArray⟩) ∧ Below w.heap.size w w' := by
  go_enter Tryd.func10, Tryd.ntmps10
  go_wp2_with fail
  refine (wbyte w.heap.size w.heap.size [] 34 34 rfl _ (BW.fresh w) (by simp) (by simp)).mono ?_
  rintro e w1 ⟨rfl, h1, b1⟩
  go_wp2_with fail
  have b0 : Below w.heap.size w w1 := ((Below.refl _ w).alloc (Nat.le_refl _) _).trans b1
  clear b1
  go_loopw [4] (fun i wr => ∃ k : Nat, k ≤ s.size ∧ i = .int .i64 k ∧ BW w.heap.size w.heap.size (qtext s k) wr ∧ Below w.heap.size w wr) (fun i _ => s.size - (RowKit.intOf i).toNat)
  case atStart => exact ⟨0, Nat.zero_le _, rfl, by rw [qtext_zero]; exact h1, b0⟩
  case round =>
    obtain ⟨k, hk, rfl, hB, hbw⟩ := hrel
    have hq := qtext_len s k
    clear h1 b0
    by_cases hlt : k < s.size
    · have X := Lib.hid (qtext_succ s k hlt)
      go_wp2_with (go_at_call 32; refine (implQByte _ _ _ s[k] _ hB (by omega) hbw.size).mono ?_; rintro e w2 ⟨rfl, h2, b2⟩)
      go_roundw
      case rel => exact ⟨k + 1, by omega, by go_num, by rw [X.out]; exact h2, hbw.trans b2⟩
      case measure => simp [RowKit.intOf]; omega
    · have X := Lib.hid (qtext_end s k (by omega))
      go_wp2_with fail
      refine (wbyte _ _ _ 34 34 rfl _ hB (by omega) hbw.size).mono ?_
      rintro e w2 ⟨rfl, h2, b2⟩
      go_wp2_with fail
      refine (wtext _ _ _ _ h2 (hbw.trans b2).size).mono ?_
      rintro e w3 ⟨rfl, b3⟩
      go_wp2_with fail
      go_ret
      exact ⟨by rw [← X.out]; rfl, (hbw.trans b2).trans b3⟩
end Go.Proofs.YtogkbfafdlbodaaDoor
