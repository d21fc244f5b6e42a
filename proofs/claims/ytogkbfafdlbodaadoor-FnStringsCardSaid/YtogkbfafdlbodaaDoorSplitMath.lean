/- Plain functions for reading lists of fields; nothing of the program. -/
import Derived.Test.YtogkbfafdlbodaaDoorParseMath
import Derived.Lib.IndexMore
import Derived.Lib.Index
import Derived.Lib.IndexBytes
namespace Go.Proofs.YtogkbfafdlbodaaDoor
open Go.RowKit

def colonCut : List UInt8 → Option (List UInt8 × List UInt8)
  | [] => none
  | b :: r => if b = 58 then some ([], r) else (colonCut r).map (fun p => (b :: p.1, p.2))
theorem index_colon : ∀ l : List UInt8, (colonCut l = none ∧ Lib.index l [58] = -1) ∨ (∃ x y, colonCut l = some (x, y) ∧ Lib.index l [58] = (x.length : Int) ∧ l = x ++ 58 :: y)
  | [] => .inl ⟨rfl, rfl⟩
  | b :: r => by
    by_cases hb : b = 58
    · subst hb
      exact .inr ⟨[], r, rfl, rfl, rfl⟩
    · have hp : ([58] : List UInt8).isPrefixOf (b :: r) = false := by
        simp only [List.isPrefixOf]
        have : ((58 : UInt8) == b) = false := by simpa using fun h => hb h.symm
        simp [this]
      rcases index_colon r with ⟨h1, h2⟩ | ⟨x, y, h1, h2, h3⟩
      · left
        refine ⟨by simp [colonCut, hb, h1], ?_⟩
        simp [Lib.index, hp, h2]
      · right
        refine ⟨b :: x, y, by simp [colonCut, hb, h1], ?_, by rw [h3]; rfl⟩
        simp only [Lib.index, hp, h2]
        have : ((x.length : Int) == -1) = false := by simp
        simp [this]
theorem cut_none {l : List UInt8} (h : colonCut l = none) : Lib.cut l [58] = (l, [], false) := by
  rcases index_colon l with ⟨_, h2⟩ | ⟨x, y, h1, _, _⟩
  · unfold Lib.cut; rw [h2]; rfl
  · rw [h] at h1; cases h1
theorem cut_some {l x y : List UInt8} (h : colonCut l = some (x, y)) : Lib.cut l [58] = (x, y, true) := by
  rcases index_colon l with ⟨h1, _⟩ | ⟨x', y', h1, h2, h3⟩
  · rw [h] at h1; cases h1
  · rw [h] at h1
    simp only [Option.some.injEq, Prod.mk.injEq] at h1
    obtain ⟨rfl, rfl⟩ := h1
    unfold Lib.cut
    rw [h2, if_pos (by omega), h3]
    simp
theorem cut_len {l x y : List UInt8} (h : colonCut l = some (x, y)) : l.length = x.length + 1 + y.length := by
  rcases index_colon l with ⟨h1, _⟩ | ⟨x', y', h1, _, h3⟩
  · rw [h] at h1; cases h1
  · rw [h] at h1
    simp only [Option.some.injEq, Prod.mk.injEq] at h1
    obtain ⟨rfl, rfl⟩ := h1
    rw [h3]; simp; omega
/-- No colon among the first k bytes. -/
def NoColon (l : List UInt8) (k : Nat) : Prop := ∀ j, j < k → l[j]? ≠ some 58
theorem colon_at : ∀ (l : List UInt8) (k : Nat), NoColon l k → l[k]? = some 58 → colonCut l = some (l.take k, l.drop (k + 1))
  | [], k, _, h => by simp at h
  | b :: r, 0, _, h => by
    simp at h; subst h; simp [colonCut]
  | b :: r, k + 1, hn, h => by
    have hb : b ≠ 58 := by have := hn 0 (by omega); simpa using this
    have ih := colon_at r k (fun j hj => by have := hn (j + 1) (by omega); simpa using this) (by simpa using h)
    simp [colonCut, hb, ih]
theorem colon_none : ∀ (l : List UInt8), NoColon l l.length → colonCut l = none
  | [], _ => rfl
  | b :: r, hn => by
    have hb : b ≠ 58 := by have := hn 0 (by simp); simpa using this
    have ih := colon_none r (fun j hj => by have := hn (j + 1) (by simp; omega); simpa using this)
    simp [colonCut, hb, ih]
theorem colon_far : ∀ (l x y : List UInt8) (k : Nat), NoColon l k → colonCut l = some (x, y) → k ≤ x.length
  | [], _, _, _, _, h => by cases h
  | b :: r, x, y, 0, _, _ => Nat.zero_le _
  | b :: r, x, y, k + 1, hn, h => by
    have hb : b ≠ 58 := by have := hn 0 (by omega); simpa using this
    simp only [colonCut, hb, if_false] at h
    cases hc : colonCut r with
    | none => rw [hc] at h; cases h
    | some p =>
      rw [hc] at h
      simp only [Option.map_some, Option.some.injEq, Prod.mk.injEq] at h
      have := colon_far r p.1 p.2 k (fun j hj => by have := hn (j + 1) (by omega); simpa using this) hc
      rw [← h.1]; simp; omega

def fieldStep (l : List UInt8) : Option (List UInt8 × List UInt8) := match colonCut l with
  | some (x, y) => if (pVal x).2 = true ∧ 0 ≤ (pVal x).1 ∧ (pVal x).1 ≤ y.length then some (y.take (pVal x).1.toNat, y.drop (pVal x).1.toNat) else none
  | none => none
theorem fieldStep_none {l : List UInt8} (h : colonCut l = none) : fieldStep l = none := by unfold fieldStep; rw [h]
theorem fieldStep_bad {l x y : List UInt8} (h : colonCut l = some (x, y)) (hb : ¬ ((pVal x).2 = true ∧ 0 ≤ (pVal x).1 ∧ (pVal x).1 ≤ y.length)) : fieldStep l = none := by
  unfold fieldStep; rw [h]; simp only; rw [if_neg hb]
theorem fieldStep_ok {l x y : List UInt8} {n : Nat} (h : colonCut l = some (x, y)) (h1 : (pVal x).2 = true) (h2 : (pVal x).1 = n) (h3 : n ≤ y.length) : fieldStep l = some (y.take n, y.drop n) := by
  unfold fieldStep; rw [h]; simp only
  rw [if_pos ⟨h1, by omega, by omega⟩, h2]; rfl
theorem fieldStep_len {l x r : List UInt8} (h : fieldStep l = some (x, r)) : r.length < l.length := by
  unfold fieldStep at h
  cases hc : colonCut l with
  | none => rw [hc] at h; cases h
  | some p =>
    obtain ⟨a, b⟩ := p
    rw [hc] at h
    simp only at h
    have hl := cut_len hc
    split at h
    · simp only [Option.some.injEq, Prod.mk.injEq] at h
      rw [← h.2, List.length_drop]; omega
    · cases h
theorem pVal_long {x : List UInt8} (h : 11 ≤ x.length) : (pVal x).2 = false := by
  rw [pNo_long (l := x) (by unfold bodyL; rw [List.length_drop]; have := sgn_le x; omega)]

def splitF : Nat → List UInt8 → Option (List (List UInt8))
  | _, [] => some []
  | 0, _ :: _ => none
  | f + 1, b :: r => match fieldStep (b :: r) with
    | none => none
    | some (x, r') => (splitF f r').map (x :: ·)
/-- What both loops know at their heads. -/
def SplitRel (T : Option (List (List UInt8))) (acc : List (List UInt8)) (rest : List UInt8) : Prop := ∃ f, rest.length ≤ f ∧ T = (splitF f rest).map (acc ++ ·)
theorem SplitRel.start (l : List UInt8) : SplitRel (splitF l.length l) [] l := ⟨l.length, Nat.le_refl _, by simp⟩
theorem SplitRel.last {T : Option (List (List UInt8))} {acc : List (List UInt8)} {rest : List UInt8} (h : SplitRel T acc rest) (hr : rest.length = 0) : T = some acc := by
  obtain ⟨f, _, e⟩ := h
  have : rest = [] := List.eq_nil_of_length_eq_zero hr
  subst this
  rw [e]; cases f <;> simp [splitF]
theorem SplitRel.bad {T : Option (List (List UInt8))} {acc : List (List UInt8)} {rest : List UInt8} (h : SplitRel T acc rest) (hr : 0 < rest.length) (hs : fieldStep rest = none) : T = none := by
  obtain ⟨f, hf, e⟩ := h
  cases rest with
  | nil => simp at hr
  | cons b r =>
    cases f with
    | zero => simp at hf
    | succ f => rw [e]; simp [splitF, hs]
theorem SplitRel.step {T : Option (List (List UInt8))} {acc : List (List UInt8)} {rest x r : List UInt8} (h : SplitRel T acc rest) (hr : 0 < rest.length) (hs : fieldStep rest = some (x, r)) : SplitRel T (acc ++ [x]) r := by
  obtain ⟨f, hf, e⟩ := h
  have hl := fieldStep_len hs
  cases rest with
  | nil => simp at hr
  | cons b rr =>
    cases f with
    | zero => simp at hf
    | succ f =>
      refine ⟨f, by simp at hl hf; omega, ?_⟩
      rw [e]; simp [splitF, hs, Option.map_map, Function.comp_def]
def mkS (l : List UInt8) : Value := .string ⟨l.toArray⟩
end Go.Proofs.YtogkbfafdlbodaaDoor
