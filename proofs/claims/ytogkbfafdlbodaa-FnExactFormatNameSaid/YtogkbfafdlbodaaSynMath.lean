/- Plain functions for syntactic names; nothing of the program but the list of reserved words. -/
import Derived.Test.YtogkbfafdlbodaaTextMath
import Derived.Test.YtogkbfafdlbodaaReserved
namespace Go.Proofs.Ytogkbfafdlbodaa
open Go.RowKit

def letterI (x : Int) : Bool := decide (97 ≤ x ∧ x ≤ 122) || decide (65 ≤ x ∧ x ≤ 90)
def digitI (x : Int) : Bool := decide (48 ≤ x ∧ x ≤ 57)
def synC (c : UInt8) : Bool := letterI c.toNat || digitI c.toNat || ((c.toNat : Int) == 46) || ((c.toNat : Int) == 95)
def headC (c : UInt8) : Bool := letterI c.toNat || ((c.toNat : Int) == 46)
def headOk (l : List UInt8) : Bool := headC (l.getD 0 0)
def dotDigit (l : List UInt8) : Bool := (((l.getD 0 0).toNat : Int) == 46) && decide (2 ≤ l.length) && digitI ((l.getD 1 0).toNat)
def synL (l : List UInt8) : Bool := nameL l && !reservedB l && l.all synC && headOk l && !dotDigit l

/-- The first byte of a front that is not empty may begin a name. -/
def HeadAt (s : ByteArray) (k : Nat) : Prop := 0 < k → headOk s.data.toList = true
theorem HeadAt.zero (s : ByteArray) : HeadAt s 0 := fun h => absurd h (Nat.lt_irrefl _)
theorem HeadAt.later {s : ByteArray} {k : Nat} (h : HeadAt s k) (hk : 0 < k) : HeadAt s (k + 1) := fun _ => h hk
theorem get0 {s : ByteArray} (h : 0 < s.size) : s.data.toList.getD 0 0 = s[0] := by
  have h' : 0 < s.data.toList.length := h
  rw [List.getD_eq_getElem?_getD, List.getElem?_eq_getElem h']; rfl
theorem get1 {s : ByteArray} (h : 1 < s.size) : s.data.toList.getD 1 0 = s[1] := by
  have h' : 1 < s.data.toList.length := h
  rw [List.getD_eq_getElem?_getD, List.getElem?_eq_getElem h']; rfl
theorem HeadAt.first {s : ByteArray} (h : 0 < s.size) (hc : headC s[0] = true) : HeadAt s 1 := fun _ => by unfold headOk; rw [get0 h]; exact hc
theorem synL_byte {s : ByteArray} {k : Nat} (hk : k < s.size) (hc : synC s[k] = false) : synL s.data.toList = false := by
  simp [synL, not_all hk hc]
theorem synL_head {s : ByteArray} (hk : 0 < s.size) (hc : headC s[0] = false) : synL s.data.toList = false := by
  have : headOk s.data.toList = false := by unfold headOk; rw [get0 hk]; exact hc
  simp [synL, this]
theorem synL_name {l : List UInt8} (h : nameL l = false) : synL l = false := by simp [synL, h]
theorem synL_word {l : List UInt8} (h : reservedB l = true) : synL l = false := by simp [synL, h]
theorem nameL_pos {s : ByteArray} (h : nameL s.data.toList = true) : 0 < s.size := by
  simp only [nameL, Bool.and_eq_true, decide_eq_true_eq] at h
  have := h.2.1; rw [size_list] at this; omega
theorem nameL_le {s : ByteArray} (h : nameL s.data.toList = true) : s.size ≤ 20 := by
  simp only [nameL, Bool.and_eq_true, decide_eq_true_eq] at h
  have := h.2.2; rw [size_list] at this; omega
theorem dot_not46 {s : ByteArray} (h : 0 < s.size) (h46 : ((s[0].toNat : Int) == 46) = false) : dotDigit s.data.toList = false := by
  unfold dotDigit; rw [get0 h, h46]; rfl
theorem dot_one {s : ByteArray} (h : s.size = 1) : dotDigit s.data.toList = false := by
  unfold dotDigit; rw [size_list, h]; simp
theorem dot_two {s : ByteArray} (h : 1 < s.size) (h46 : ((s[0].toNat : Int) == 46) = true) : dotDigit s.data.toList = digitI s[1].toNat := by
  unfold dotDigit; rw [size_list, get0 (by omega), get1 h, h46]; simp; omega
theorem synL_rest {l : List UInt8} (hn : nameL l = true) (hr : reservedB l = false) (ha : l.all synC = true) (hh : headOk l = true) : synL l = !dotDigit l := by
  simp [synL, hn, hr, ha, hh]
theorem synL_rest2 {l : List UInt8} (hn : nameL l = true) (hr : reservedB l = false) (ha : l.all synC = true) : synL l = (headOk l && !dotDigit l) := by
  simp [synL, hn, hr, ha]
theorem head46 {s : ByteArray} (h : 0 < s.size) (h46 : ((s[0].toNat : Int) == 46) = true) : headOk s.data.toList = true := by
  unfold headOk headC; rw [get0 h, h46]; simp
theorem head_not46 {s : ByteArray} (h : 0 < s.size) (h46 : ((s[0].toNat : Int) == 46) = false) : headOk s.data.toList = letterI s[0].toNat := by
  unfold headOk headC; rw [get0 h, h46]; simp
theorem nameL_low {s : ByteArray} (h : nameL s.data.toList = true) (k : Nat) (hk : k < s.size) : s[k].toNat < 128 := by
  simp only [nameL, Bool.and_eq_true] at h
  have hm := List.all_eq_true.1 h.1 s[k] (by
    have : s[k] = s.data.toList[k]'(by simpa using hk) := rfl
    rw [this]; exact List.getElem_mem _)
  simp only [okB, decide_eq_true_eq] at hm
  omega
end Go.Proofs.Ytogkbfafdlbodaa
