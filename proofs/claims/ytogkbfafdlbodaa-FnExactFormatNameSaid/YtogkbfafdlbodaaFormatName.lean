/- The written form of a name: both functions, against one plain function. -/
import Derived.Test.YtogkbfafdlbodaaRows
import Derived.Test.YtogkbfafdlbodaaSynName
import Derived.WalkKit
import Derived.WalkSpells
import Derived.WalkLawsBesides
import Derived.Lib.Hide
namespace Go.Proofs.Ytogkbfafdlbodaa
open Go.RowKit Go.Lib

/-- The written form of a name. -/
def fmtName (s : ByteArray) : ByteArray := if nameL s.data.toList = true then (if synL s.data.toList = true then s else ⟨#[96]⟩ ++ s ++ ⟨#[96]⟩) else ⟨#[]⟩
theorem fmtName_no {s : ByteArray} (h : nameL s.data.toList = false) : fmtName s = ⟨#[]⟩ := by unfold fmtName; rw [if_neg (by simp [h])]
theorem fmtName_syn {s : ByteArray} (h : nameL s.data.toList = true) (h2 : synL s.data.toList = true) : fmtName s = s := by unfold fmtName; rw [if_pos h, if_pos h2]
theorem fmtName_quot {s : ByteArray} (h : nameL s.data.toList = true) (h2 : synL s.data.toList = false) : fmtName s = ⟨#[96]⟩ ++ s ++ ⟨#[96]⟩ := by unfold fmtName; rw [if_pos h, if_neg (by simp [h2])]
theorem ret_str {a b : ByteArray} (h : a = b) : Ending.returned (.string a) = .returned (.string b) := by rw [h]

set_option maxHeartbeats 1000000 in
theorem specFormatName (s : ByteArray) (w : World) (hs : s.size ≤ maxLen) :
    Calls Try.prog 16 #[.string s] w fun e w' => e = .returned (.string (fmtName s)) ∧ Below w.heap.size w w' := by
  have hs0 := hs
  unfold maxLen at hs
  cases hN : nameL s.data.toList
  · have X := Lib.hid (fmtName_no hN)
    go_enter Try.func16, Try.ntmps16
    go_wp2_with (first | (go_at_call 12; refine (specIsName _ _ hs0).mono ?_; rintro e w' ⟨rfl, rfl⟩) | (go_at_call 14; refine (specSyn _ _ hs0).mono ?_; rintro e w2 ⟨rfl, hb2⟩))
    go_ret
    exact ⟨ret_str X.out.symm, Below.refl _ _⟩
  · cases hY : synL s.data.toList
    · have X := Lib.hid (fmtName_quot hN hY)
      have hle := nameL_le hN
      go_enter Try.func16, Try.ntmps16
      go_wp2_with (first | (go_at_call 12; refine (specIsName _ _ hs0).mono ?_; rintro e w' ⟨rfl, rfl⟩) | (go_at_call 14; refine (specSyn _ _ hs0).mono ?_; rintro e w2 ⟨rfl, hb2⟩))
      go_ret
      exact ⟨ret_str X.out.symm, hb2⟩
    · have X := Lib.hid (fmtName_syn hN hY)
      go_enter Try.func16, Try.ntmps16
      go_wp2_with (first | (go_at_call 12; refine (specIsName _ _ hs0).mono ?_; rintro e w' ⟨rfl, rfl⟩) | (go_at_call 14; refine (specSyn _ _ hs0).mono ?_; rintro e w2 ⟨rfl, hb2⟩))
      go_ret
      exact ⟨ret_str X.out.symm, hb2⟩

set_option maxHeartbeats 1000000 in
theorem implFormatName (s : ByteArray) (w : World) (hs : s.size ≤ maxLen) :
    Calls Try.prog 17 #[.string s] w fun e w' => e = .returned (.string (fmtName s)) ∧ Below w.heap.size w w' := by
  have hs0 := hs
  unfold maxLen at hs
  cases hN : nameL s.data.toList
  · have X := Lib.hid (fmtName_no hN)
    go_enter Try.func17, Try.ntmps17
    go_wp2_with (first | (go_at_call 13; refine (implIsName _ _ hs0).mono ?_; rintro e w1 ⟨rfl, hb1⟩) | (go_at_call 15; refine (implSyn _ _ hs0).mono ?_; rintro e w2 ⟨rfl, hb2⟩))
    go_ret
    exact ⟨ret_str X.out.symm, hb1⟩
  · cases hY : synL s.data.toList
    · have X := Lib.hid (fmtName_quot hN hY)
      have hle := nameL_le hN
      go_enter Try.func17, Try.ntmps17
      go_wp2_with (first | (go_at_call 13; refine (implIsName _ _ hs0).mono ?_; rintro e w1 ⟨rfl, hb1⟩) | (go_at_call 15; refine (implSyn _ _ hs0).mono ?_; rintro e w2 ⟨rfl, hb2⟩))
      go_ret
      exact ⟨ret_str X.out.symm, hb1.trans (hb2.mono hb1.size)⟩
    · have X := Lib.hid (fmtName_syn hN hY)
      go_enter Try.func17, Try.ntmps17
      go_wp2_with (first | (go_at_call 13; refine (implIsName _ _ hs0).mono ?_; rintro e w1 ⟨rfl, hb1⟩) | (go_at_call 15; refine (implSyn _ _ hs0).mono ?_; rintro e w2 ⟨rfl, hb2⟩))
      go_ret
      exact ⟨ret_str X.out.symm, hb1.trans (hb2.mono hb1.size)⟩
end Go.Proofs.Ytogkbfafdlbodaa
