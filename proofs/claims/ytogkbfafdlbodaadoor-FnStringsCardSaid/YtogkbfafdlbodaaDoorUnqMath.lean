/- Plain functions for reading quoted strings; nothing of the program. -/
import Derived.Test.YtogkbfafdlbodaaDoorQuoteMath
import Derived.Lib.Bytealg
namespace Go.Proofs.YtogkbfafdlbodaaDoor
open Go.RowKit

def nibF (d : Nat) (b : UInt8) : Nat := ((List.range 16).find? (fun j => hexC j == b)).getD d
theorem nibF_hex (d : Nat) (k : Nat) (h : k < 16) : nibF d (hexC k) = k := by
  have hc : k = 0 ∨ k = 1 ∨ k = 2 ∨ k = 3 ∨ k = 4 ∨ k = 5 ∨ k = 6 ∨ k = 7 ∨ k = 8 ∨ k = 9 ∨ k = 10 ∨ k = 11 ∨ k = 12 ∨ k = 13 ∨ k = 14 ∨ k = 15 := by omega
  rcases hc with rfl | rfl | rfl | rfl | rfl | rfl | rfl | rfl | rfl | rfl | rfl | rfl | rfl | rfl | rfl | rfl <;> rfl
theorem nibF_lt (d : Nat) (hd : d < 16) (b : UInt8) : nibF d b < 16 := by
  unfold nibF
  cases h : (List.range 16).find? (fun j => hexC j == b) with
  | none => exact hd
  | some j => have := List.mem_of_find?_eq_some h; simpa using this

def stepW (l : List UInt8) : Nat := if (l.getD 0 0).toNat ≠ 92 ∨ l.length ≤ 1 then 1 else if (l.getD 1 0).toNat = 110 then 2 else if (l.getD 1 0).toNat = 120 ∧ 4 ≤ l.length then 4 else 2
def stepB (nib : UInt8 → Nat) (l : List UInt8) : UInt8 := if (l.getD 0 0).toNat ≠ 92 ∨ l.length ≤ 1 then l.getD 0 0 else if (l.getD 1 0).toNat = 110 then 10 else if (l.getD 1 0).toNat = 120 ∧ 4 ≤ l.length then (nib (l.getD 2 0) * 16 + nib (l.getD 3 0)).toUInt8 else l.getD 1 0
def unescF (nib : UInt8 → Nat) : Nat → List UInt8 → List UInt8
  | 0, _ => []
  | f + 1, l => if l.length = 0 then [] else stepB nib l :: unescF nib f (l.drop (stepW l))
theorem stepW_pos (l : List UInt8) : 1 ≤ stepW l := by unfold stepW; repeat' split
                                                       all_goals omega
theorem stepW_le (l : List UInt8) (h : 0 < l.length) : stepW l ≤ l.length := by unfold stepW; repeat' split
                                                                                all_goals omega
theorem unescF_len (nib : UInt8 → Nat) : ∀ f l, (unescF nib f l).length ≤ l.length := by
  intro f
  induction f with
  | zero => intro l; simp [unescF]
  | succ f ih =>
    intro l
    simp only [unescF]
    split
    · simp
    · rename_i h
      have h1 := ih (l.drop (stepW l))
      have h2 := stepW_pos l
      simp only [List.length_drop] at h1
      simp only [List.length_cons]; omega
theorem unescF_fuel (nib : UInt8 → Nat) : ∀ f g l, l.length ≤ f → l.length ≤ g → unescF nib f l = unescF nib g l := by
  intro f
  induction f with
  | zero =>
    intro g l h1 _
    have : l.length = 0 := by omega
    cases g <;> simp [unescF, this]
  | succ f ih =>
    intro g l h1 h2
    cases g with
    | zero => have : l.length = 0 := by omega
              simp [unescF, this]
    | succ g =>
      simp only [unescF]
      split
      · rfl
      · have := stepW_pos l
        rw [ih g _ (by simp; omega) (by simp; omega)]

theorem round (nib : UInt8 → Nat) (hn : ∀ k, k < 16 → nib (hexC k) = k) : ∀ (t : List UInt8) (f : Nat), (t.flatMap quoteC).length ≤ f → unescF nib f (t.flatMap quoteC) = t := by
  intro t
  induction t with
  | nil => intro f _; cases f <;> simp [unescF]
  | cons c t ih =>
    intro f hf
    have hb := c.toNat_lt
    rw [List.flatMap_cons] at hf ⊢
    by_cases h1 : c.toNat = 34 ∨ c.toNat = 92
    · have hq : quoteC c = [92, c] := by rw [quoteC, if_pos h1]
      rw [hq] at hf ⊢
      obtain ⟨g, rfl⟩ : ∃ g, f = g + 1 := ⟨f - 1, by simp at hf; omega⟩
      have hw : stepW ([92, c] ++ t.flatMap quoteC) = 2 := by
        rw [stepW, if_neg (by simp), if_neg (by simp; omega), if_neg (by simp; omega)]
      have hs : stepB nib ([92, c] ++ t.flatMap quoteC) = c := by
        rw [stepB, if_neg (by simp), if_neg (by simp; omega), if_neg (by simp; omega)]; simp
      rw [unescF, if_neg (by simp), hw, hs]
      congr 1
      exact ih g (by simp only [List.length_append, List.length_cons, List.length_nil] at hf; omega)
    · by_cases h2 : c.toNat = 10
      · have hq : quoteC c = [92, 110] := by rw [quoteC, if_neg h1, if_pos h2]
        rw [hq] at hf ⊢
        obtain ⟨g, rfl⟩ : ∃ g, f = g + 1 := ⟨f - 1, by simp at hf; omega⟩
        have hw : stepW ([92, 110] ++ t.flatMap quoteC) = 2 := by
          rw [stepW, if_neg (by simp), if_pos (by simp)]
        have hs : stepB nib ([92, 110] ++ t.flatMap quoteC) = c := by
          rw [stepB, if_neg (by simp), if_pos (by simp)]; exact UInt8.toNat_inj.1 (by rw [h2]; rfl)
        rw [unescF, if_neg (by simp), hw, hs]
        congr 1
        exact ih g (by simp only [List.length_append, List.length_cons, List.length_nil] at hf; omega)
      · by_cases h3 : c.toNat < 32 ∨ 126 < c.toNat
        · have hq : quoteC c = [92, 120, hexC (c.toNat / 16), hexC (c.toNat % 16)] := by rw [quoteC, if_neg h1, if_neg h2, if_pos h3]
          rw [hq] at hf ⊢
          obtain ⟨g, rfl⟩ : ∃ g, f = g + 1 := ⟨f - 1, by simp at hf; omega⟩
          have hw : stepW ([92, 120, hexC (c.toNat / 16), hexC (c.toNat % 16)] ++ t.flatMap quoteC) = 4 := by
            rw [stepW, if_neg (by simp), if_neg (by simp), if_pos (by simp)]
          have hs : stepB nib ([92, 120, hexC (c.toNat / 16), hexC (c.toNat % 16)] ++ t.flatMap quoteC) = c := by
            rw [stepB, if_neg (by simp), if_neg (by simp), if_pos (by simp)]
            have e2 : ([92, 120, hexC (c.toNat / 16), hexC (c.toNat % 16)] ++ t.flatMap quoteC).getD 2 0 = hexC (c.toNat / 16) := rfl
            have e3 : ([92, 120, hexC (c.toNat / 16), hexC (c.toNat % 16)] ++ t.flatMap quoteC).getD 3 0 = hexC (c.toNat % 16) := rfl
            rw [e2, e3, hn _ (by omega), hn _ (by omega)]
            have : c.toNat / 16 * 16 + c.toNat % 16 = c.toNat := by omega
            rw [this]; exact UInt8.toNat_inj.1 (by simp)
          rw [unescF, if_neg (by simp), hw, hs]
          congr 1
          exact ih g (by simp only [List.length_append, List.length_cons, List.length_nil] at hf; omega)
        · have hq : quoteC c = [c] := by rw [quoteC, if_neg h1, if_neg h2, if_neg h3]
          rw [hq] at hf ⊢
          obtain ⟨g, rfl⟩ : ∃ g, f = g + 1 := ⟨f - 1, by simp at hf; omega⟩
          have hw : stepW ([c] ++ t.flatMap quoteC) = 1 := by
            rw [stepW, if_pos (by left; simp; omega)]
          have hs : stepB nib ([c] ++ t.flatMap quoteC) = c := by
            rw [stepB, if_pos (by left; simp; omega)]; simp
          rw [unescF, if_neg (by simp), hw, hs]
          congr 1
          exact ih g (by simp only [List.length_append, List.length_cons, List.length_nil] at hf; omega)

/-- The bytes of s from place k to the one before the last. -/
def cur (s : ByteArray) (k : Nat) : List UInt8 := (s.data.toList.take (s.size - 1)).drop k
theorem cur_len (s : ByteArray) (k : Nat) : (cur s k).length = s.size - 1 - k := by
  have : s.data.toList.length = s.size := rfl
  unfold cur; rw [List.length_drop, List.length_take, this]; omega
theorem cur_get (s : ByteArray) (k j : Nat) (h : k + j < s.size - 1) : (cur s k).getD j 0 = s[k + j]'(by omega) := by
  have hl := cur_len s k
  rw [List.getD_eq_getElem?_getD, List.getElem?_eq_getElem (by omega)]
  simp only [cur, List.getElem_drop, List.getElem_take, Option.getD_some]
  rfl
theorem cur_drop (s : ByteArray) (k j : Nat) : (cur s k).drop j = cur s (k + j) := by
  unfold cur; rw [List.drop_drop]

def unesc (nib : UInt8 → Nat) (s : ByteArray) : List UInt8 := unescF nib (cur s 1).length (cur s 1)
def Unq (nib : UInt8 → Nat) (s : ByteArray) (k : Nat) (acc : List UInt8) : Prop := acc ++ unescF nib (cur s k).length (cur s k) = unesc nib s
theorem Unq.start (nib : UInt8 → Nat) (s : ByteArray) : Unq nib s 1 [] := rfl
theorem Unq.last {nib : UInt8 → Nat} {s : ByteArray} {k : Nat} {acc : List UInt8} (h : Unq nib s k acc) (hk : s.size - 1 ≤ k) : acc = unesc nib s := by
  unfold Unq at h
  have hl : (cur s k).length = 0 := by rw [cur_len]; omega
  rw [hl] at h
  simpa [unescF] using h
theorem Unq.step {nib : UInt8 → Nat} {s : ByteArray} {k : Nat} {acc : List UInt8} (h : Unq nib s k acc) (hk : k < s.size - 1) : Unq nib s (k + stepW (cur s k)) (acc ++ [stepB nib (cur s k)]) := by
  unfold Unq at *
  have hl := cur_len s k
  obtain ⟨f, hf⟩ : ∃ f, (cur s k).length = f + 1 := ⟨(cur s k).length - 1, by omega⟩
  rw [hf, unescF, if_neg (by omega), cur_drop] at h
  rw [← h, List.append_assoc]
  have h1 := stepW_pos (cur s k)
  have e1 : (cur s (k + stepW (cur s k))).length ≤ f := by rw [cur_len]; omega
  rw [unescF_fuel nib f _ _ e1 (Nat.le_refl _)]; rfl
theorem Unq.len {nib : UInt8 → Nat} {s : ByteArray} {k : Nat} {acc : List UInt8} (h : Unq nib s k acc) : acc.length ≤ s.size := by
  have h1 : (unesc nib s).length ≤ s.size := by
    refine Nat.le_trans (unescF_len nib _ _) ?_
    rw [cur_len]; omega
  unfold Unq at h
  rw [← h] at h1
  simp at h1; omega

def unqOk (nib : UInt8 → Nat) (s : ByteArray) : Bool := quoteL (unesc nib s) == s.data.toList
def unqT (nib : UInt8 → Nat) (s : ByteArray) : ByteArray := if unqOk nib s = true then ⟨(unesc nib s).toArray⟩ else ⟨#[]⟩
theorem unq_back {n1 n2 : UInt8 → Nat} (h2 : ∀ k, k < 16 → n2 (hexC k) = k) {s : ByteArray} (h : unqOk n1 s = true) : unesc n2 s = unesc n1 s := by
  have hs : quoteL (unesc n1 s) = s.data.toList := by simpa [unqOk] using h
  have hc : cur s 1 = (unesc n1 s).flatMap quoteC := by
    have hl : s.size = s.data.toList.length := rfl
    unfold cur
    rw [hl, ← hs]
    simp [quoteL]
  have h3 := round n2 h2 (unesc n1 s) _ (Nat.le_refl _)
  rw [← hc] at h3
  exact h3
theorem unqOk_same {n1 n2 : UInt8 → Nat} (h1 : ∀ k, k < 16 → n1 (hexC k) = k) (h2 : ∀ k, k < 16 → n2 (hexC k) = k) (s : ByteArray) : unqOk n1 s = unqOk n2 s := by
  rw [Bool.eq_iff_iff]
  constructor
  · intro h
    have := unq_back h2 h
    unfold unqOk at *; rw [this]; exact h
  · intro h
    have := unq_back h1 h
    unfold unqOk at *; rw [this]; exact h
theorem unqT_same {n1 n2 : UInt8 → Nat} (h1 : ∀ k, k < 16 → n1 (hexC k) = k) (h2 : ∀ k, k < 16 → n2 (hexC k) = k) (s : ByteArray) : unqT n1 s = unqT n2 s := by
  unfold unqT
  rw [← unqOk_same h1 h2 s]
  split
  · rename_i h; rw [unq_back h2 h]
  · rfl
theorem unqOk_short {nib : UInt8 → Nat} {s : ByteArray} (h : s.size < 2) : unqOk nib s = false := by
  have hl : s.size = s.data.toList.length := rfl
  simp only [unqOk, beq_eq_false_iff_ne]
  intro e
  have := congrArg List.length e
  simp [quoteL] at this
  omega
end Go.Proofs.YtogkbfafdlbodaaDoor
