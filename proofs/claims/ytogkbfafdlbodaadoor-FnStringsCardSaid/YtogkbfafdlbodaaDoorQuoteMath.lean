/- Plain functions for quoted strings; nothing of the program. -/
import Derived.Test.YtogkbfafdlbodaaDoorTextMath
import Derived.Laws.Strings
import Derived.IntWalk
namespace Go.Proofs.YtogkbfafdlbodaaDoor
open Go.RowKit

/-- Two equal numbers are returned alike. -/
theorem ret_i64q {a b : Int} (h : a = b) : Ending.returned (.int .i64 a) = .returned (.int .i64 b) := by rw [h]

def hexC (k : Nat) : UInt8 := (if k < 10 then 48 + k else 87 + k).toUInt8
def quoteC (c : UInt8) : List UInt8 :=
  if c.toNat = 34 ∨ c.toNat = 92 then [92, c] else if c.toNat = 10 then [92, 110] else if c.toNat < 32 ∨ 126 < c.toNat then [92, 120, hexC (c.toNat / 16), hexC (c.toNat % 16)] else [c]
def quoteL (l : List UInt8) : List UInt8 := 34 :: (l.flatMap quoteC ++ [34])

/-- What has been written behind the first k bytes. -/
def qtext (s : ByteArray) (k : Nat) : List UInt8 := 34 :: (s.data.toList.take k).flatMap quoteC
theorem qtext_zero (s : ByteArray) : qtext s 0 = [34] := by simp [qtext]
theorem qtext_succ (s : ByteArray) (k : Nat) (h : k < s.size) : qtext s (k + 1) = qtext s k ++ quoteC s[k] := by
  unfold qtext; rw [take_snoc s k h]; simp
theorem qtext_end (s : ByteArray) (k : Nat) (h : s.size ≤ k) : qtext s k ++ [34] = quoteL s.data.toList := by
  unfold qtext quoteL; rw [List.take_of_length_le (by simpa using h)]; rfl
theorem quoteC_len (c : UInt8) : (quoteC c).length ≤ 4 := by unfold quoteC; repeat' split
                                                             all_goals simp
theorem flat_len : ∀ l : List UInt8, (l.flatMap quoteC).length ≤ 4 * l.length := by
  intro l
  induction l with
  | nil => simp
  | cons c l ih => have := quoteC_len c; simp only [List.flatMap_cons, List.length_append, List.length_cons]; omega
theorem qtext_len (s : ByteArray) (k : Nat) : (qtext s k).length ≤ 4 * k + 1 := by
  have h := flat_len (s.data.toList.take k)
  have h2 : (s.data.toList.take k).length ≤ k := List.length_take_le _ _
  simp only [qtext, List.length_cons]; omega
theorem quoteL_len (l : List UInt8) : (quoteL l).length ≤ 4 * l.length + 2 := by
  have h := flat_len l
  simp only [quoteL, List.length_cons, List.length_append, List.length_nil]; omega
theorem bytes_append (a b : List UInt8) : (⟨a.toArray⟩ : ByteArray) ++ ⟨b.toArray⟩ = ⟨(a ++ b).toArray⟩ := by
  apply ByteArray.ext; simp
theorem extract_one (s : ByteArray) (k : Nat) (h : k < s.size) : s.extract k (k + 1) = ⟨[s[k]].toArray⟩ := by
  apply ByteArray.ext
  rw [ByteArray.data_extract]
  apply Array.ext
  · simp; have : s.data.size = s.size := rfl; omega
  · intro i h1 h2
    have : i = 0 := by simpa using h2
    subst this
    simp; rfl
theorem qstep_esc {s : ByteArray} {k : Nat} (h : k < s.size) (hc : s[k].toNat = 34 ∨ s[k].toNat = 92) : (⟨(qtext s k).toArray⟩ : ByteArray) ++ ⟨#[92]⟩ ++ s.extract k (k + 1) = ⟨(qtext s (k + 1)).toArray⟩ := by
  rw [extract_one s k h, show (#[92] : Array UInt8) = [92].toArray from rfl, bytes_append, bytes_append, qtext_succ s k h, quoteC, if_pos hc]; simp
theorem qstep_nl {s : ByteArray} {k : Nat} (h : k < s.size) (hc : s[k].toNat = 10) : (⟨(qtext s k).toArray⟩ : ByteArray) ++ ⟨#[92, 110]⟩ = ⟨(qtext s (k + 1)).toArray⟩ := by
  rw [show (#[92, 110] : Array UInt8) = [92, 110].toArray from rfl, bytes_append, qtext_succ s k h, quoteC, if_neg (by omega), if_pos hc]
theorem qstep_hex {s : ByteArray} {k : Nat} (h : k < s.size) (h1 : ¬ (s[k].toNat = 34 ∨ s[k].toNat = 92)) (h2 : ¬ s[k].toNat = 10) (hc : s[k].toNat < 32 ∨ 126 < s[k].toNat) :
    (⟨(qtext s k).toArray⟩ : ByteArray) ++ ⟨#[92, 120]⟩ ++ ⟨[hexC (s[k].toNat / 16)].toArray⟩ ++ ⟨[hexC (s[k].toNat % 16)].toArray⟩ = ⟨(qtext s (k + 1)).toArray⟩ := by
  rw [show (#[92, 120] : Array UInt8) = [92, 120].toArray from rfl, bytes_append, bytes_append, bytes_append, qtext_succ s k h, quoteC, if_neg h1, if_neg h2, if_pos hc]; simp
theorem qstep_plain {s : ByteArray} {k : Nat} (h : k < s.size) (h1 : ¬ (s[k].toNat = 34 ∨ s[k].toNat = 92)) (h2 : ¬ s[k].toNat = 10) (hc : ¬ (s[k].toNat < 32 ∨ 126 < s[k].toNat)) :
    (⟨(qtext s k).toArray⟩ : ByteArray) ++ s.extract k (k + 1) = ⟨(qtext s (k + 1)).toArray⟩ := by
  rw [extract_one s k h, bytes_append, qtext_succ s k h, quoteC, if_neg h1, if_neg h2, if_neg hc]
theorem qstep_end {s : ByteArray} {k : Nat} (h : s.size ≤ k) : (⟨(qtext s k).toArray⟩ : ByteArray) ++ ⟨#[34]⟩ = ⟨(quoteL s.data.toList).toArray⟩ := by
  rw [show (#[34] : Array UInt8) = [34].toArray from rfl, bytes_append, qtext_end s k h]
theorem wrap64_byte (c : UInt8) : wrap64 (c.toNat : Int) = c.toNat := by
  have := c.toNat_lt
  exact IntWalk.wrap64_in _ (by omega)
theorem and15_all : ∀ n : Fin 256, bits BinOp.and IntKind.i64 ((n.val : Nat) : Int) 15 = ((n.val % 16 : Nat) : Int) ∧ bits BinOp.and IntKind.u8 ((n.val : Nat) : Int) 15 = ((n.val % 16 : Nat) : Int) := by decide +kernel
theorem and15_i64 (c : UInt8) : bits BinOp.and IntKind.i64 (c.toNat : Int) 15 = ((c.toNat % 16 : Nat) : Int) := (and15_all ⟨c.toNat, c.toNat_lt⟩).1
theorem and15_u8 (c : UInt8) : bits BinOp.and IntKind.u8 (c.toNat : Int) 15 = ((c.toNat % 16 : Nat) : Int) := (and15_all ⟨c.toNat, c.toNat_lt⟩).2
theorem hex_at (n : Nat) (h : n < 16) (h' : n < (⟨#[48, 49, 50, 51, 52, 53, 54, 55, 56, 57, 97, 98, 99, 100, 101, 102]⟩ : ByteArray).size) :
    (((⟨#[48, 49, 50, 51, 52, 53, 54, 55, 56, 57, 97, 98, 99, 100, 101, 102]⟩ : ByteArray)[n]'h').toNat : Int) = ((hexC n).toNat : Int) := by
  have hc : n = 0 ∨ n = 1 ∨ n = 2 ∨ n = 3 ∨ n = 4 ∨ n = 5 ∨ n = 6 ∨ n = 7 ∨ n = 8 ∨ n = 9 ∨ n = 10 ∨ n = 11 ∨ n = 12 ∨ n = 13 ∨ n = 14 ∨ n = 15 := by omega
  rcases hc with rfl | rfl | rfl | rfl | rfl | rfl | rfl | rfl | rfl | rfl | rfl | rfl | rfl | rfl | rfl | rfl <;> rfl
end Go.Proofs.YtogkbfafdlbodaaDoor
