/- Reading numbers: the plain function, and that the program's way and the reference's way come to the same. -/
import Derived.Test.YtmglolpiekbnpaaDoorNumFmt
import Derived.Test.YtmglolpiekbnpaaDoorParseMath
import Derived.Lib.IndexMore
namespace Go.Proofs.YtmglolpiekbnpaaDoor
set_option maxRecDepth 100000
open Go.RowKit

def slashCut : List UInt8 → Option (List UInt8 × List UInt8)
  | [] => none
  | b :: r => if b = 47 then some ([], r) else (slashCut r).map (fun p => (b :: p.1, p.2))
theorem index_slash : ∀ l : List UInt8, (slashCut l = none ∧ Lib.index l [47] = -1) ∨ (∃ x y, slashCut l = some (x, y) ∧ Lib.index l [47] = (x.length : Int) ∧ l = x ++ 47 :: y)
  | [] => .inl ⟨rfl, rfl⟩
  | b :: r => by
    by_cases hb : b = 47
    · subst hb
      exact .inr ⟨[], r, rfl, rfl, rfl⟩
    · have hp : ([47] : List UInt8).isPrefixOf (b :: r) = false := by
        simp [List.isPrefixOf]; exact fun h => hb h.symm
      rcases index_slash r with ⟨h1, h2⟩ | ⟨x, y, h1, h2, h3⟩
      · left
        refine ⟨by simp [slashCut, hb, h1], ?_⟩
        simp [Lib.index, hp, h2]
      · right
        refine ⟨b :: x, y, by simp [slashCut, hb, h1], ?_, by rw [h3]; rfl⟩
        simp only [Lib.index, hp, h2]
        have : ((x.length : Int) == -1) = false := by simp
        simp [this]
theorem cutS_none {l : List UInt8} (h : slashCut l = none) : Lib.cut l [47] = (l, [], false) := by
  rcases index_slash l with ⟨_, h2⟩ | ⟨x, y, h1, _, _⟩
  · unfold Lib.cut; rw [h2]; rfl
  · rw [h] at h1; cases h1
theorem cutS_some {l x y : List UInt8} (h : slashCut l = some (x, y)) : Lib.cut l [47] = (x, y, true) := by
  rcases index_slash l with ⟨h1, _⟩ | ⟨x', y', h1, h2, h3⟩
  · rw [h] at h1; cases h1
  · rw [h] at h1
    simp only [Option.some.injEq, Prod.mk.injEq] at h1
    obtain ⟨rfl, rfl⟩ := h1
    unfold Lib.cut
    rw [h2, if_pos (by omega), h3]
    simp
theorem slash_len {l x y : List UInt8} (h : slashCut l = some (x, y)) : l.length = x.length + 1 + y.length := by
  rcases index_slash l with ⟨h1, _⟩ | ⟨x', y', h1, _, h3⟩
  · rw [h] at h1; cases h1
  · rw [h] at h1
    simp only [Option.some.injEq, Prod.mk.injEq] at h1
    obtain ⟨rfl, rfl⟩ := h1
    rw [h3]; simp; omega
def NoSlash (l : List UInt8) (k : Nat) : Prop := ∀ j, j < k → l[j]? ≠ some 47
theorem slash_at : ∀ (l : List UInt8) (k : Nat), NoSlash l k → l[k]? = some 47 → slashCut l = some (l.take k, l.drop (k + 1))
  | [], k, _, h => by simp at h
  | b :: r, 0, _, h => by
    simp at h; subst h; simp [slashCut]
  | b :: r, k + 1, hn, h => by
    have hb : b ≠ 47 := by have := hn 0 (by omega); simpa using this
    have ih := slash_at r k (fun j hj => by have := hn (j + 1) (by omega); simpa using this) (by simpa using h)
    simp [slashCut, hb, ih]
theorem slash_none : ∀ (l : List UInt8), NoSlash l l.length → slashCut l = none
  | [], _ => rfl
  | b :: r, hn => by
    have hb : b ≠ 47 := by have := hn 0 (by simp); simpa using this
    have ih := slash_none r (fun j hj => by have := hn (j + 1) (by simp; omega); simpa using this)
    simp [slashCut, hb, ih]
theorem slash_app : ∀ (x y : List UInt8), (∀ c ∈ x, c ≠ 47) → slashCut (x ++ 47 :: y) = some (x, y)
  | [], y, _ => by simp [slashCut]
  | b :: r, y, h => by
    have hb : b ≠ 47 := h b (by simp)
    have ih := slash_app r y (fun c hc => h c (by simp [hc]))
    simp [slashCut, hb, ih]
theorem slash_no : ∀ (x : List UInt8), (∀ c ∈ x, c ≠ 47) → slashCut x = none
  | [], _ => rfl
  | b :: r, h => by
    have hb : b ≠ 47 := h b (by simp)
    have ih := slash_no r (fun c hc => h c (by simp [hc]))
    simp [slashCut, hb, ih]
theorem dec_no (u : Nat) : ∀ c ∈ Lib.decDigits u, c ≠ 47 := by
  intro c hc e
  have := List.all_eq_true.1 (dec_all u) c hc
  rw [e] at this
  exact absurd this (by decide)
theorem itoa_no (v : Int) : ∀ c ∈ Lib.itoa v, c ≠ 47 := by
  by_cases h : 0 ≤ v
  · obtain ⟨a, rfl⟩ : ∃ a : Nat, v = a := ⟨v.toNat, by omega⟩
    rw [Lib.itoa_nonneg]; exact dec_no a
  · obtain ⟨a, rfl⟩ : ∃ a : Nat, v = -(a : Int) := ⟨(-v).toNat, by omega⟩
    rw [Lib.itoa_neg a (by omega)]
    intro c hc
    simp only [List.mem_cons] at hc
    rcases hc with rfl | hc
    · decide
    · exact dec_no a c hc
theorem pVal_itoa {v : Int} (h0 : -999999999 ≤ v) (h1 : v ≤ 999999999) : pVal (Lib.itoa v) = (v, true) := pVal_yes h0 h1 rfl
theorem pVal_in (l : List UInt8) : -999999999 ≤ (pVal l).1 ∧ (pVal l).1 ≤ 999999999 := by
  unfold pVal
  split
  · split
    · rename_i h; exact ⟨h.1, h.2.1⟩
    · simp
  · simp
theorem pVal_nil : pVal [] = (0, false) := pNo_short (by decide)

/-- Both parts of a text and whether they can be read. -/
def prsF (l : List UInt8) : Int × Int × Bool := match slashCut l with
  | none => ((pVal l).1, 1, (pVal l).2)
  | some (x, y) => ((pVal x).1, (pVal y).1, (pVal x).2 && (pVal y).2)
theorem prsF_in (l : List UInt8) : (-999999999 ≤ (prsF l).1 ∧ (prsF l).1 ≤ 999999999) ∧ (-999999999 ≤ (prsF l).2.1 ∧ (prsF l).2.1 ≤ 999999999) := by
  unfold prsF
  split
  · exact ⟨pVal_in _, by simp⟩
  · exact ⟨pVal_in _, pVal_in _⟩
theorem prsF_none {l : List UInt8} (h : slashCut l = none) : prsF l = ((pVal l).1, 1, (pVal l).2) := by unfold prsF; rw [h]
theorem prsF_some {l x y : List UInt8} (h : slashCut l = some (x, y)) : prsF l = ((pVal x).1, (pVal y).1, (pVal x).2 && (pVal y).2) := by unfold prsF; rw [h]
def fr (n d : Int) : It := ⟨n, d, ⟨#[]⟩⟩
def prsI (s : ByteArray) : It × Bool := if s.data.toList = [78, 65] then (noI, true) else if (prsF s.data.toList).2.2 = true ∧ txI (fr (prsF s.data.toList).1 (prsF s.data.toList).2.1) = s then (fr (prsF s.data.toList).1 (prsF s.data.toList).2.1, true) else (noI, false)
theorem prs_na {s : ByteArray} (h : s.data.toList = [78, 65]) : prsI s = (noI, true) := by unfold prsI; rw [if_pos h]
theorem prs_bad {s : ByteArray} {n d : Int} {b : Bool} (h : s.data.toList ≠ [78, 65]) (hp : prsF s.data.toList = (n, d, b)) (hb : b = false ∨ txI (fr n d) ≠ s) : prsI s = (noI, false) := by
  unfold prsI; rw [if_neg h, hp]
  simp only
  rw [if_neg]
  rintro ⟨h1, h2⟩
  rcases hb with hb | hb
  · rw [hb] at h1; cases h1
  · exact hb h2
theorem prs_good {s : ByteArray} {n d : Int} (h : s.data.toList ≠ [78, 65]) (hp : prsF s.data.toList = (n, d, true)) (hb : txI (fr n d) = s) : prsI s = (fr n d, true) := by
  unfold prsI; rw [if_neg h, hp]
  simp only
  rw [if_pos ⟨trivial, hb⟩]
theorem list_of {s : ByteArray} {l : List UInt8} (h : (⟨l.toArray⟩ : ByteArray) = s) : s.data.toList = l := by rw [← h]
/-- The text of a number is read as its parts. -/
theorem prs_text {x : It} {s : ByteArray} (h : isN x = true) (e : txI x = s) : prsF s.data.toList = (x.n, x.d, true) := by
  have a := isN_iff.1 h
  by_cases d1 : x.d = 1
  · rw [tx_one h d1] at e
    rw [list_of e, prsF_none (slash_no _ (itoa_no _)), pVal_itoa (by omega) (by omega), d1]
  · rw [tx_two h d1, show (#[47] : Array UInt8) = [47].toArray from rfl, bytes_cat, bytes_cat] at e
    rw [list_of e]
    have hc : slashCut (Lib.itoa x.n ++ [47] ++ Lib.itoa x.d) = some (Lib.itoa x.n, Lib.itoa x.d) := by
      rw [List.append_assoc]; exact slash_app _ _ (itoa_no _)
    rw [prsF_some hc, pVal_itoa (by omega) (by omega), pVal_itoa (by omega) (by omega)]
    rfl
/-- A fraction in lowest terms is its own number. -/
theorem mk_self {n d : Int} (h : isN (fr n d) = true) : mkI n d = fr n d := by
  have a := isN_iff.1 h
  unfold fr at a h
  simp only at a
  rw [mkI_ok (by unfold okR; omega)]
  exact ofQ_toQ h
theorem na_text : (⟨#[78, 65]⟩ : ByteArray).data.toList = [78, 65] := rfl
/-- The program asks the text of what it has read, the reference that of the number that it makes: both say the same. -/
theorem prs_same {s : ByteArray} {n d : Int} (h : s.data.toList ≠ [78, 65]) (hp : prsF s.data.toList = (n, d, true)) :
    (txI (fr n d) = s → mkI n d = fr n d) ∧ (txI (mkI n d) = s → mkI n d = fr n d) := by
  constructor
  · intro e
    cases hn : isN (fr n d)
    · exfalso
      by_cases z : n = 0 ∧ d = 0
      · rw [z.1, z.2, show fr 0 0 = ⟨0, 0, ⟨#[]⟩⟩ from rfl, tx_no rfl rfl] at e
        rw [← e] at h
        exact h rfl
      · rw [tx_bad hn (by unfold fr; simp only; omega)] at e
        rw [← e, show (⟨#[]⟩ : ByteArray).data.toList = [] from rfl, prsF_none rfl, pVal_nil] at hp
        cases hp
    · exact mk_self hn
  · intro e
    have hz : mkI n d = noI ∨ isN (mkI n d) = true := by
      by_cases ok : okR n d
      · rw [mkI_ok ok]
        rcases ofQ_cases (Rat.divInt n d) with k | k
        · exact .inl k
        · exact .inr k.1
      · exact .inl (mkI_no ok)
    rcases hz with hz | hz
    · exfalso
      rw [hz, show noI = ⟨0, 0, ⟨#[]⟩⟩ from rfl, tx_no rfl rfl] at e
      rw [← e] at h
      exact h rfl
    · have k := prs_text hz e
      rw [hp] at k
      simp only [Prod.mk.injEq, and_true] at k
      exact It.ext' k.1.symm k.2.symm (mkI_t n d)
/-- A text whose second part is 1 because there is none: the reference reads it so as well. -/
theorem one_read : pVal [49] = (1, true) := by
  have h : Lib.itoa 1 = [49] := by rw [show (1 : Int) = ((1 : Nat) : Int) from rfl, Lib.itoa_nonneg, Lib.decDigits_one (by omega)]; rfl
  rw [← h]; exact pVal_itoa (by omega) (by omega)
end Go.Proofs.YtmglolpiekbnpaaDoor
