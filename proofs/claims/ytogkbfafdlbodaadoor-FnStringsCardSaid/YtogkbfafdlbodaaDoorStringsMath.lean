/- What chapter 1's pairs of functions do to each other's texts; nothing of the program. -/
import Derived.Test.YtogkbfafdlbodaaDoorQuoteMath
import Derived.Test.YtogkbfafdlbodaaDoorUnqMath
import Derived.Test.YtogkbfafdlbodaaDoorSplitMath
import Derived.Test.YtogkbfafdlbodaaDoorJoin
namespace Go.Proofs.YtogkbfafdlbodaaDoor
open Go.RowKit

theorem hexC_all : ∀ k : Fin 16, 32 ≤ (hexC k.val).toNat ∧ (hexC k.val).toNat ≤ 126 := by decide +kernel
theorem quoteC_shown (c b : UInt8) (h : b ∈ quoteC c) : 32 ≤ b.toNat ∧ b.toNat ≤ 126 := by
  have hc := c.toNat_lt
  unfold quoteC at h
  split at h
  · rename_i h1
    simp only [List.mem_cons, List.not_mem_nil, or_false] at h
    rcases h with rfl | rfl
    · decide
    · omega
  · split at h
    · simp only [List.mem_cons, List.not_mem_nil, or_false] at h
      rcases h with rfl | rfl <;> decide
    · split at h
      · simp only [List.mem_cons, List.not_mem_nil, or_false] at h
        rcases h with rfl | rfl | rfl | rfl
        · decide
        · decide
        · exact hexC_all ⟨c.toNat / 16, by omega⟩
        · exact hexC_all ⟨c.toNat % 16, by omega⟩
      · simp only [List.mem_cons, List.not_mem_nil, or_false] at h
        subst h; omega
theorem quoteL_shown (l : List UInt8) (b : UInt8) (h : b ∈ quoteL l) : 32 ≤ b.toNat ∧ b.toNat ≤ 126 := by
  simp only [quoteL, List.mem_cons, List.mem_append, List.mem_flatMap, List.not_mem_nil, or_false] at h
  rcases h with rfl | ⟨c, _, hb⟩ | rfl
  · decide
  · exact quoteC_shown c b hb
  · decide
/-- The text of a string. -/
def quoteT (s : ByteArray) : ByteArray := ⟨(quoteL s.data.toList).toArray⟩
theorem quoteT_size (s : ByteArray) : (quoteT s).size ≤ 4 * s.size + 2 := quoteL_len s.data.toList
theorem quoteT_shown (s : ByteArray) (k : Nat) (h : k < (quoteT s).size) : 32 ≤ ((quoteT s)[k]).toNat ∧ ((quoteT s)[k]).toNat ≤ 126 :=
  quoteL_shown s.data.toList _ (by
    have : (quoteT s)[k] = (quoteL s.data.toList)[k]'h := rfl
    rw [this]; exact List.getElem_mem _)
theorem unesc_quote (nib : UInt8 → Nat) (hn : ∀ k, k < 16 → nib (hexC k) = k) (s : ByteArray) : unesc nib (quoteT s) = s.data.toList := by
  have e : cur (quoteT s) 1 = s.data.toList.flatMap quoteC := by
    have hl : (quoteT s).size = (s.data.toList.flatMap quoteC).length + 2 := by
      show (quoteL s.data.toList).length = _
      simp [quoteL]
    have hd : (quoteT s).data.toList = 34 :: (s.data.toList.flatMap quoteC ++ [34]) := rfl
    unfold cur
    rw [hd, hl, show (s.data.toList.flatMap quoteC).length + 2 - 1 = (s.data.toList.flatMap quoteC).length + 1 from rfl, List.take_succ_cons, List.drop_succ_cons, List.drop_zero, List.take_left']
    rfl
  unfold unesc
  rw [e]
  exact round nib hn s.data.toList _ (Nat.le_refl _)
theorem unq_quote (s : ByteArray) : unqOk (nibF 0) (quoteT s) = true ∧ unqT (nibF 0) (quoteT s) = s := by
  have e := unesc_quote (nibF 0) (nibF_hex 0) s
  have h : unqOk (nibF 0) (quoteT s) = true := by unfold unqOk; rw [e]; simp [quoteT]
  refine ⟨h, ?_⟩
  unfold unqT
  rw [if_pos h, e]

theorem pVal_itoa (n : Int) : (pVal (Lib.itoa n)).2 = decide (-1000000000 < n ∧ n < 1000000000) ∧ ((pVal (Lib.itoa n)).2 = true → (pVal (Lib.itoa n)).1 = n) := by
  by_cases h : -1000000000 < n ∧ n < 1000000000
  · rw [pVal_yes (by omega) (by omega) rfl]; simp [h]
  · rw [pVal_no (fun v h0 h1 e => by
      have h2 := (itoa_body e).2
      have h3 := (itoa_body (rfl : Lib.itoa n = Lib.itoa n)).2
      omega)]
    simp [h]

theorem dec_colon (n : Nat) (j : Nat) : (Lib.decDigits n)[j]? ≠ some 58 := by
  intro h
  have h1 := dec_all n
  rw [List.all_eq_true] at h1
  have h2 := digB_iff.1 (h1 58 (List.mem_of_getElem? h))
  exact absurd h2 (by decide)
theorem field_step (x : ByteArray) (hx : x.size ≤ 999999999) (rest : List UInt8) : fieldStep (fieldL x ++ rest) = some (x.data.toList, rest) := by
  have e : fieldL x ++ rest = Lib.decDigits x.size ++ 58 :: (x.data.toList ++ rest) := by simp [fieldL, Lib.itoa_nonneg]
  have hc := colon_at (fieldL x ++ rest) (Lib.decDigits x.size).length (fun j hj => by rw [e, List.getElem?_append_left hj]; exact dec_colon _ _) (by rw [e, List.getElem?_append_right (Nat.le_refl _), Nat.sub_self]; rfl)
  have h1 : (fieldL x ++ rest).take (Lib.decDigits x.size).length = Lib.itoa (x.size : Int) := by rw [e, List.take_left']; exact (Lib.itoa_nonneg _).symm; rfl
  have h2 : (fieldL x ++ rest).drop ((Lib.decDigits x.size).length + 1) = x.data.toList ++ rest := by
    rw [e, List.drop_append, List.drop_of_length_le (by omega), show (Lib.decDigits x.size).length + 1 - (Lib.decDigits x.size).length = 1 by omega]; rfl
  rw [h1, h2] at hc
  have hp := pVal_yes (l := Lib.itoa (x.size : Int)) (v := (x.size : Int)) (by omega) (by omega) rfl
  have hs : x.data.toList.length = x.size := rfl
  rw [fieldStep_ok hc (n := x.size) (by rw [hp]) (by rw [hp]) (by rw [List.length_append]; omega)]
  rw [← hs, List.take_left', List.drop_left'] <;> rfl
def joinL (xs : List ByteArray) : List UInt8 := xs.flatMap fieldL
theorem splitF_join : ∀ (xs : List ByteArray) (f : Nat), (∀ x ∈ xs, x.size ≤ 999999999) → (joinL xs).length ≤ f → splitF f (joinL xs) = some (xs.map fun x => x.data.toList)
  | [], f, _, _ => by cases f <;> rfl
  | x :: xs, f, hx, hf => by
    have hs := field_step x (hx x (by simp)) (joinL xs)
    have e : joinL (x :: xs) = fieldL x ++ joinL xs := by simp [joinL]
    have hl := fieldStep_len hs
    rw [e] at hf ⊢
    cases hc : fieldL x ++ joinL xs with
    | nil => rw [hc] at hs; cases hs
    | cons b r =>
      rw [hc] at hf hs hl
      cases f with
      | zero => simp at hf
      | succ f =>
        simp only [splitF, hs]
        rw [splitF_join xs f (fun y hy => hx y (by simp [hy])) (by simp at hl hf; omega)]
        rfl
theorem joinF_L (f : Nat → ByteArray) : ∀ n, joinF f n = joinL ((List.range n).map f)
  | 0 => rfl
  | n + 1 => by rw [joinF, joinF_L f n, List.range_succ, List.map_append, joinL, joinL, List.flatMap_append]; simp
theorem split_join (f : Nat → ByteArray) (n : Nat) (hf : ∀ i, i < n → (f i).size ≤ 999999999) : splitF (joinF f n).length (joinF f n) = some ((List.range n).map fun i => (f i).data.toList) := by
  have h := splitF_join ((List.range n).map f) (joinF f n).length (fun x hx => by
    simp only [List.mem_map, List.mem_range] at hx
    obtain ⟨i, hi, rfl⟩ := hx
    exact hf i hi) (by rw [joinF_L]; exact Nat.le_refl _)
  rw [joinF_L] at h ⊢
  rw [h, List.map_map]; rfl
end Go.Proofs.YtogkbfafdlbodaaDoor
