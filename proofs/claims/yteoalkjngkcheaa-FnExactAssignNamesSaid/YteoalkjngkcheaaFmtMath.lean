/- Plain functions for integers and their texts; nothing of the program. -/
import Derived.Test.YteoalkjngkcheaaTextMath
import Derived.Lib.ItoaNum
import Derived.Lib.ItoaMem
import Derived.Lib.ItoaLen
import Derived.Laws.Strings
import Derived.IntWalk
namespace Go.Proofs.Yteoalkjngkcheaa
set_option maxRecDepth 100000
open Go.RowKit

theorem bytes_cat (a b : List UInt8) : (⟨a.toArray⟩ : ByteArray) ++ ⟨b.toArray⟩ = ⟨(a ++ b).toArray⟩ := by
  apply ByteArray.ext; simp
def digC (d : Nat) : UInt8 := UInt8.ofNat (48 + d)
/-- The digits of a (none for 0) in front of acc. -/
def digs (a : Nat) (acc : List UInt8) : List UInt8 := if a = 0 then acc else Lib.decDigits a ++ acc
theorem digs_step (a : Nat) (acc : List UInt8) (h : a ≠ 0) : digs a acc = digs (a / 10) (digC (a % 10) :: acc) := by
  unfold digs
  rw [if_neg h]
  by_cases h1 : a < 10
  · rw [Lib.decDigits, dif_pos h1, if_pos (by omega), Nat.mod_eq_of_lt h1]; rfl
  · rw [Lib.decDigits, dif_neg h1, if_neg (by omega), List.append_assoc]; rfl
def DigAt (n a : Nat) (v : Value) : Prop := ∃ acc, v = .string ⟨acc.toArray⟩ ∧ digs a acc = digs n []
theorem DigAt.start (n : Nat) : DigAt n n (.string ⟨#[]⟩) := ⟨[], rfl, rfl⟩
theorem DigAt.step {n a : Nat} {acc : List UInt8} (h : digs a acc = digs n []) (ha : a ≠ 0) {b : ByteArray} (hb : b = ⟨[digC (a % 10)].toArray⟩ ++ ⟨acc.toArray⟩) : DigAt n (a / 10) (.string b) :=
  ⟨digC (a % 10) :: acc, by rw [hb, bytes_cat]; rfl, by rw [← digs_step a acc ha, h]⟩
theorem digit_text (d : Nat) (h : d < 10) : (⟨#[48, 49, 50, 51, 52, 53, 54, 55, 56, 57]⟩ : ByteArray).extract d (d + 1) = ⟨[digC d].toArray⟩ := by
  have hc : d = 0 ∨ d = 1 ∨ d = 2 ∨ d = 3 ∨ d = 4 ∨ d = 5 ∨ d = 6 ∨ d = 7 ∨ d = 8 ∨ d = 9 := by omega
  rcases hc with rfl | rfl | rfl | rfl | rfl | rfl | rfl | rfl | rfl | rfl <;> rfl
theorem digs_pos (n : Nat) (h : n ≠ 0) : digs n [] = Lib.decDigits n := by unfold digs; rw [if_neg h]; simp
theorem neg_tdiv (a : Nat) : (-(a : Int)).tdiv 10 = -((a / 10 : Nat) : Int) := by rw [Int.neg_tdiv]; rfl
theorem neg_tmod (a : Nat) : (-(a : Int)).tmod 10 = -((a % 10 : Nat) : Int) := by rw [Int.neg_tmod]; rfl
theorem dec_len (n : Nat) (h : n ≤ 9223372036854775807) : (Lib.decDigits n).length ≤ 21 := by
  have := Lib.itoa_length_le (n : Int) (by omega) (by omega)
  rwa [Lib.itoa_nonneg] at this
theorem dec_len2 (n : Nat) (h : n ≤ 9223372036854775808) (h0 : 1 ≤ n) : (Lib.decDigits n).length ≤ 20 := by
  have := Lib.itoa_length_le (-(n : Int)) (by omega) (by omega)
  rw [Lib.itoa_neg n h0] at this
  simpa using this
theorem acc_len {n a : Nat} {acc : List UInt8} (h : digs a acc = digs n []) (hn : n ≤ 9223372036854775808) (h0 : 1 ≤ n) : acc.length ≤ 20 := by
  have h1 := dec_len2 n hn h0
  rw [digs_pos n (by omega)] at h
  rw [← h] at h1
  unfold digs at h1
  split at h1
  · exact h1
  · simp at h1; omega
end Go.Proofs.Yteoalkjngkcheaa
