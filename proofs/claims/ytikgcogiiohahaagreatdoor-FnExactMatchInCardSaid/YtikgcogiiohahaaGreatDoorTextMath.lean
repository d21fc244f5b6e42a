/- Plain functions on byte lists for the chapter on texts and names; nothing of the program. -/
import Derived.WalkKit
import Derived.Lib.OthersKept
import Derived.Laws.RangeAny
namespace Go.Proofs.YtikgcogiiohahaaGreatDoor
set_option maxRecDepth 100000
open Go.RowKit

/-- A byte that a name may hold. -/
def okB (c : UInt8) : Bool := decide (33 ≤ (c.toNat : Int) ∧ (c.toNat : Int) ≤ 126 ∧ (c.toNat : Int) ≠ 96)
/-- Names. -/
def nameL (l : List UInt8) : Bool := l.all okB && decide (1 ≤ l.length ∧ l.length ≤ 20)

theorem take_snoc (s : ByteArray) (k : Nat) (h : k < s.size) : s.data.toList.take (k + 1) = s.data.toList.take k ++ [s[k]] := by
  rw [List.take_succ_eq_append_getElem (by simpa using h)]; rfl

/-- The first k bytes all serve. -/
def Front (p : UInt8 → Bool) (s : ByteArray) (k : Nat) : Prop := (s.data.toList.take k).all p = true
theorem Front.zero (p : UInt8 → Bool) (s : ByteArray) : Front p s 0 := by simp [Front]
theorem Front.succ {p : UInt8 → Bool} {s : ByteArray} {k : Nat} (h : Front p s k) (hk : k < s.size) (hc : p s[k] = true) : Front p s (k + 1) := by
  unfold Front at *
  rw [take_snoc s k hk, List.all_append, h]
  simp [hc]
theorem Front.all {p : UInt8 → Bool} {s : ByteArray} {k : Nat} (h : Front p s k) (hk : s.size ≤ k) : s.data.toList.all p = true := by
  unfold Front at h
  rwa [List.take_of_length_le (by simpa using hk)] at h
theorem not_all {p : UInt8 → Bool} {s : ByteArray} {k : Nat} (hk : k < s.size) (hc : p s[k] = false) : s.data.toList.all p = false := by
  rw [List.all_eq_false]
  exact ⟨s[k], by
    have : s[k] = s.data.toList[k]'(by simpa using hk) := rfl
    rw [this]; exact List.getElem_mem _, by simp [hc]⟩
theorem okB_yes {c : UInt8} (h1 : 33 ≤ (c.toNat : Int)) (h2 : (c.toNat : Int) ≤ 126) (h3 : (c.toNat : Int) ≠ 96) : okB c = true := by simp only [okB, decide_eq_true_eq]; exact ⟨h1, h2, h3⟩
theorem okB_no {c : UInt8} (h : (c.toNat : Int) < 33 ∨ 126 < (c.toNat : Int) ∨ (c.toNat : Int) = 96) : okB c = false := by simp only [okB, decide_eq_false_iff_not]; omega
theorem nameL_bad {s : ByteArray} {k : Nat} (hk : k < s.size) (hc : okB s[k] = false) : nameL s.data.toList = false := by
  simp [nameL, not_all hk hc]
theorem nameL_all {s : ByteArray} (h : s.data.toList.all okB = true) : nameL s.data.toList = decide (1 ≤ s.size ∧ s.size ≤ 20) := by
  simp [nameL, h]
theorem nameL_len {s : ByteArray} (h : s.size < 1 ∨ 20 < s.size) : nameL s.data.toList = false := by
  have e : s.data.toList.length = s.size := rfl
  simp only [nameL, e, Bool.and_eq_false_iff, decide_eq_false_iff_not]
  right; omega
theorem size_list (s : ByteArray) : s.data.toList.length = s.size := rfl
/-- A rune that the range hands over: below 128 it is the byte itself, one byte wide; else it is 128 or more. -/
theorem rune_cases (s : ByteArray) (k : Nat) (h : k < s.size) :
    ((s[k].toNat < 128 ∧ (Utf8.decode s k).1 = s[k].toNat ∧ (Utf8.decode s k).2 = 1) ∨ (128 ≤ s[k].toNat ∧ 128 ≤ (Utf8.decode s k).1 ∧ 1 ≤ (Utf8.decode s k).2)) := by
  by_cases ha : s[k].toNat < 128
  · left; rw [decode_ascii s k h ha]; exact ⟨ha, rfl, rfl⟩
  · right; exact ⟨by omega, (decode_high s k h (by omega)).1, (decode_high s k h (by omega)).2⟩
theorem bad_rune {s : ByteArray} {k : Nat} (hk : k < s.size) (h : ((Utf8.decode s k).1 : Int) < 33 ∨ 126 < ((Utf8.decode s k).1 : Int) ∨ (((Utf8.decode s k).1 : Int) == 96) = true) : okB s[k] = false := by
  apply okB_no
  have h' : ((Utf8.decode s k).1 : Int) < 33 ∨ 126 < ((Utf8.decode s k).1 : Int) ∨ ((Utf8.decode s k).1 : Int) = 96 := by simpa using h
  rcases rune_cases s k hk with ⟨_, h2, _⟩ | ⟨h1, h2, _⟩ <;> omega
theorem good_rune {s : ByteArray} {k : Nat} (hk : k < s.size) (h1 : 33 ≤ ((Utf8.decode s k).1 : Int)) (h2 : ((Utf8.decode s k).1 : Int) ≤ 126) (h3 : (((Utf8.decode s k).1 : Int) == 96) = false) : okB s[k] = true ∧ (Utf8.decode s k).2 = 1 := by
  have h3' : ((Utf8.decode s k).1 : Int) ≠ 96 := by simpa using h3
  rcases rune_cases s k hk with ⟨_, h5, h6⟩ | ⟨_, h5, _⟩
  · exact ⟨okB_yes (by omega) (by omega) (by omega), h6⟩
  · omega
end Go.Proofs.YtikgcogiiohahaaGreatDoor
