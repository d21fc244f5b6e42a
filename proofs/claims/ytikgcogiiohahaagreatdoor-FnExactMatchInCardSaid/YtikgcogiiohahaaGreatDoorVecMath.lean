/- Which vectors are valid, as plain mathematics. -/
import Derived.Test.YtikgcogiiohahaaGreatDoorRows
import Derived.Test.YtikgcogiiohahaaGreatDoorVecSz
import Derived.Test.YtikgcogiiohahaaGreatDoorNumMath
namespace Go.Proofs.YtikgcogiiohahaaGreatDoor
open Go.RowKit
set_option maxRecDepth 100000
set_option linter.unusedVariables false

/-- A statement as a truth value. -/
noncomputable def bB (p : Prop) : Bool := @decide p (Classical.propDecidable p)
theorem bB_yes {p : Prop} (h : p) : bB p = true := by unfold bB; exact @decide_eq_true p (Classical.propDecidable p) h
theorem bB_no {p : Prop} (h : ¬ p) : bB p = false := by unfold bB; exact @decide_eq_false p (Classical.propDecidable p) h
theorem bB_iff {p q : Prop} (h : p ↔ q) : bB p = bB q := by rw [propext h]
theorem ret_bB {a b : Bool} (h : a = b) : Ending.returned (.bool a) = .returned (.bool b) := by rw [h]
theorem ret_yes {p : Prop} (h : p) : Ending.returned (.bool true) = .returned (.bool (bB p)) := by rw [bB_yes h]
theorem ret_no {p : Prop} (h : ¬ p) : Ending.returned (.bool false) = .returned (.bool (bB p)) := by rw [bB_no h]

def LabelOk (f : Nat → ByteArray) (i : Nat) : Prop := (f i).size ≠ 0 ∧ (f i).size ≤ 60 ∧ ∀ j, j < i → f j ≠ f i
/-- n labels: at most most, none empty, none too long, no two equal. -/
def LabelsOk (f : Nat → ByteArray) (n most : Nat) : Prop := n ≤ most ∧ ∀ i, i < n → LabelOk f i
def NamedOk (f : Nat → ByteArray) (n : Nat) : Prop := (∀ i, i < n → (f i).size ≤ 60) ∧ (n = 0 ∨ ∃ i, i < n ∧ (f i).size ≠ 0)
/-- Does the element suit the kind? -/
def ItOk (k : Int) (x : It) : Prop := x = noI ∨ (k = 1 ∧ x.d = 1 ∧ 0 ≤ x.n ∧ x.n ≤ 1 ∧ x.t.size = 0) ∨ (k = 2 ∧ isN x = true) ∨ (k = 3 ∧ x.n = 0 ∧ x.d = 1 ∧ x.t.size ≤ 60)
def LevOk (m : Nat) (x : It) : Prop := m = 0 ∨ x.d = 0 ∨ (x.d = 1 ∧ 1 ≤ x.n ∧ x.n ≤ m)
def lenV (k : Int) (ni np : Nat) : Nat := if k = 5 then 1 else ni + np
/-- What is asked of a vector besides its parts. -/
structure FlatOk (k : Int) (items : List It) (np : Nat) (names cls levels : List ByteArray) (code env : Int) : Prop where
  h_kind : 0 ≤ k ∧ k ≤ 5
  h_len : lenV k items.length np ≤ 40
  h_names : names.length = 0 ∨ names.length = lenV k items.length np
  h_named : NamedOk (txtS names) names.length
  h_cls : LabelsOk (txtS cls) cls.length 3
  h_levels : LabelsOk (txtS levels) levels.length 20
  h_code : k ≠ 5 → code = 0 ∧ env = 0
  h_noLevels : k ≠ 2 → levels.length = 0
  h_noParts : k ≠ 4 → np = 0
  h_func : k = 5 → items.length = 0 ∧ names.length = 0 ∧ -999 ≤ code ∧ code ≤ 99999 ∧ 0 ≤ env ∧ env ≤ 99999
  h_null : k = 0 → items.length + np = 0 ∧ cls.length = 0
  h_list : k = 4 → items.length = 0
  h_items : ∀ i, i < items.length → ItOk k (items.getD i noI) ∧ LevOk levels.length (items.getD i noI)
def FlatV (v : Vec) : Prop := match v with | .mk k items parts names cls levels code env => FlatOk k items parts.length names cls levels code env
def partsV (v : Vec) : List Vec := match v with | .mk _ _ parts _ _ _ _ _ => parts
def lengthV (v : Vec) : Nat := match v with | .mk k items parts _ _ _ _ _ => lenV k items.length parts.length
/-- Valid, with at most n lists below one another in it. -/
def IsV : Nat → Vec → Prop
  | 0, v => FlatV v ∧ (partsV v).length = 0
  | n + 1, v => FlatV v ∧ ∀ i, i < (partsV v).length → IsV n ((partsV v).getD i noV)
def cellsV : Nat → Vec → Nat
  | 0, v => lengthV v
  | n + 1, v => lengthV v + sumN (fun i => cellsV n ((partsV v).getD i noV)) (partsV v).length
def ValidV (v : Vec) : Prop := IsV 3 v ∧ cellsV 3 v ≤ 200
theorem IsV.flat {n : Nat} {v : Vec} (h : IsV n v) : FlatV v := by cases n <;> exact h.1
theorem FlatV.len {v : Vec} (h : FlatV v) : lengthV v ≤ 40 := by obtain ⟨k, items, parts, names, cls, levels, code, env⟩ := v; exact FlatOk.h_len h
theorem FlatV.parts {v : Vec} (h : FlatV v) : (partsV v).length ≤ 40 := by
  obtain ⟨k, items, parts, names, cls, levels, code, env⟩ := v
  have h1 := FlatOk.h_len h
  have h2 := FlatOk.h_noParts h
  show parts.length ≤ 40
  unfold lenV at h1
  split at h1
  · have := h2 (by omega); omega
  · omega
theorem sumN_le {f : Nat → Nat} {n m : Nat} (h : ∀ i, i < n → f i ≤ m) : sumN f n ≤ n * m := by
  induction n with
  | zero => simp [sumN]
  | succ n ih =>
    have h1 := ih (fun i hi => h i (by omega))
    have h2 := h n (by omega)
    simp only [sumN]
    have : (n + 1) * m = n * m + m := by rw [Nat.add_mul, Nat.one_mul]
    omega
/-- How many cells a valid vector has at most. -/
def capC : Nat → Nat
  | 0 => 40
  | n + 1 => 40 + 40 * capC n
theorem cells_cap : ∀ (n : Nat) (v : Vec), IsV n v → cellsV n v ≤ capC n
  | 0, v, h => h.flat.len
  | n + 1, v, h => by
    have h1 := h.flat.len
    have h2 := h.flat.parts
    have h3 : sumN (fun i => cellsV n ((partsV v).getD i noV)) (partsV v).length ≤ (partsV v).length * capC n := sumN_le (fun i hi => cells_cap n _ (h.2 i hi))
    have h4 : (partsV v).length * capC n ≤ 40 * capC n := Nat.mul_le_mul_right _ h2
    show lengthV v + sumN _ _ ≤ 40 + 40 * capC n
    omega
/-- What countCells answers: the cells of a valid vector that is not too large. -/
def CountOk (n : Nat) (v : Vec) : Prop := IsV n v ∧ cellsV n v ≤ 200
theorem cell_i {k : Int} {x : It} (h : ItOk k x) : x.d = 0 ↔ x = noI := by
  constructor
  · intro h0
    rcases h with h | ⟨_, h1, _⟩ | ⟨_, h1⟩ | ⟨_, _, h1, _⟩
    · exact h
    · omega
    · have := (isN_iff.1 h1).2.1; omega
    · omega
  · rintro rfl; rfl
theorem mem_getD {α : Type} {l : List α} {x z : α} (h : x ∈ l) : ∃ i, i < l.length ∧ l.getD i z = x := by
  obtain ⟨i, hi⟩ := List.getElem?_of_mem h
  obtain ⟨hl, _⟩ := List.getElem?_eq_some_iff.1 hi
  exact ⟨i, hl, by rw [List.getD_eq_getElem?_getD, hi]; rfl⟩
theorem txt_le {l : List ByteArray} {s : ByteArray} (h : s ∈ l) : s.size ≤ sumF (txtS l) l.length := by
  obtain ⟨i, hi, e⟩ := mem_getD (z := ByteArray.empty) h
  have := sumF_at (txtS l) hi
  unfold txtS at this ⊢
  rw [e] at this
  omega
theorem itx_le {l : List It} {x : It} (h : x ∈ l) : x.t.size ≤ sumF (txtI l) l.length := by
  obtain ⟨i, hi, e⟩ := mem_getD (z := noI) h
  have := sumF_at (txtI l) hi
  unfold txtI at this ⊢
  rw [e] at this
  omega
/-- What the laws' size test lets through. -/
theorem small_of : ∀ (d : Nat) (v : Vec), Fits d v → wV d v ≤ 1048576 → Small d v
  | 0, _, h, _ => h.elim
  | d + 1, .mk k items parts names cls levels code env, h, hw => by
    have fp := fun (i : Nat) (hi : i < parts.length) => h.part hi
    have e : wV (d + 1) (.mk k items parts names cls levels code env) = (items.length + sumF (txtI items) items.length) + (parts.length + sumN (fun i => wV d (parts.getD i noV)) parts.length) + (names.length + sumF (txtS names) names.length) + (cls.length + sumF (txtS cls) cls.length) + (levels.length + sumF (txtS levels) levels.length) := rfl
    rw [e] at hw
    unfold Small
    refine ⟨by omega, by omega, by omega, by omega, by omega, fun x hx => ?_, fun s hs => ?_, fun s hs => ?_, fun s hs => ?_, fun p hp => ?_⟩
    · have := itx_le hx; omega
    · have := txt_le hs; omega
    · have := txt_le hs; omega
    · have := txt_le hs; omega
    · obtain ⟨i, hi, ep⟩ := mem_getD (z := noV) hp
      have h1 := sumN_at (fun i => wV d (parts.getD i noV)) hi
      have h2 := fp i hi
      simp only [ep] at h1 h2
      exact small_of d p h2 (by omega)
theorem Small.part {d : Nat} {k : Int} {items : List It} {parts : List Vec} {names cls levels : List ByteArray} {code env : Int} (h : Small (d + 1) (.mk k items parts names cls levels code env)) {i : Nat} (hi : i < parts.length) : Small d (parts.getD i noV) := by
  obtain ⟨_, _, _, _, _, _, _, _, _, h⟩ := h
  refine h _ ?_
  rw [List.getD_eq_getElem?_getD, List.getElem?_eq_getElem hi]
  exact List.getElem_mem hi
/-- FlatOk with all lengths named. -/
structure FlatN (k : Int) (items : List It) (ni np L : Nat) (names : Nat → ByteArray) (nn : Nat) (cls : Nat → ByteArray) (nc : Nat) (levels : Nat → ByteArray) (nl : Nat) (code env : Int) : Prop where
  h_kind : 0 ≤ k ∧ k ≤ 5
  h_len : L ≤ 40
  h_names : nn = 0 ∨ nn = L
  h_named : NamedOk names nn
  h_cls : LabelsOk cls nc 3
  h_levels : LabelsOk levels nl 20
  h_code : k ≠ 5 → code = 0 ∧ env = 0
  h_noLevels : k ≠ 2 → nl = 0
  h_noParts : k ≠ 4 → np = 0
  h_func : k = 5 → ni = 0 ∧ nn = 0 ∧ -999 ≤ code ∧ code ≤ 99999 ∧ 0 ≤ env ∧ env ≤ 99999
  h_null : k = 0 → ni + np = 0 ∧ nc = 0
  h_list : k = 4 → ni = 0
  h_items : ∀ i, i < ni → ItOk k (items.getD i noI) ∧ LevOk nl (items.getD i noI)
theorem flatN_iff {k : Int} {items : List It} {parts : List Vec} {names cls levels : List ByteArray} {code env : Int} :
    FlatV (.mk k items parts names cls levels code env) ↔ FlatN k items items.length parts.length (lenV k items.length parts.length) (txtS names) names.length (txtS cls) cls.length (txtS levels) levels.length code env := by
  constructor
  · intro h; exact ⟨h.h_kind, h.h_len, h.h_names, h.h_named, h.h_cls, h.h_levels, h.h_code, h.h_noLevels, h.h_noParts, h.h_func, h.h_null, h.h_list, h.h_items⟩
  · intro h; exact ⟨h.h_kind, h.h_len, h.h_names, h.h_named, h.h_cls, h.h_levels, h.h_code, h.h_noLevels, h.h_noParts, h.h_func, h.h_null, h.h_list, h.h_items⟩
end Go.Proofs.YtikgcogiiohahaaGreatDoor
