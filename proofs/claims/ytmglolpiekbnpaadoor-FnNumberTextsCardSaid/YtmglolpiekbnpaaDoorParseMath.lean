/- Plain functions for reading integers; nothing of the program. -/
import Derived.Test.YtmglolpiekbnpaaDoorFmtMath
import Derived.Lib.AtoiAll
namespace Go.Proofs.YtmglolpiekbnpaaDoor
open Go.RowKit

def digB (c : UInt8) : Bool := decide (48 ≤ (c.toNat : Int) ∧ (c.toNat : Int) ≤ 57)
theorem digB_iff {c : UInt8} : digB c = true ↔ 48 ≤ c.toNat ∧ c.toNat ≤ 57 := by simp only [digB, decide_eq_true_eq]; omega
theorem digC_nat {d : Nat} (h : d < 10) : (digC d).toNat = 48 + d := by
  unfold digC
  rw [UInt8.toNat_ofNat']; omega
def valF (l : List UInt8) (acc : Nat) : Nat := l.foldl (fun a c => a * 10 + (c.toNat - 48)) acc
def valL (l : List UInt8) : Nat := valF l 0
theorem valL_snoc (l : List UInt8) (c : UInt8) : valL (l ++ [c]) = valL l * 10 + (c.toNat - 48) := by simp [valL, valF]
theorem dec_cases (u : Nat) : (u < 10 ∧ Lib.decDigits u = [digC u]) ∨ (10 ≤ u ∧ Lib.decDigits u = Lib.decDigits (u / 10) ++ [digC (u % 10)]) := by
  by_cases h : u < 10
  · exact .inl ⟨h, by rw [Lib.decDigits, dif_pos h]; rfl⟩
  · exact .inr ⟨by omega, by rw [Lib.decDigits, dif_neg h]; rfl⟩
theorem dec_all (u : Nat) : (Lib.decDigits u).all digB = true := by
  induction u using Nat.strongRecOn with
  | _ u ih =>
    rcases dec_cases u with ⟨h, e⟩ | ⟨h, e⟩
    · rw [e]; simp only [List.all_cons, List.all_nil, Bool.and_true]; rw [digB_iff, digC_nat h]; omega
    · rw [e, List.all_append, ih (u / 10) (by omega)]
      simp only [List.all_cons, List.all_nil, Bool.and_true, Bool.true_and]; rw [digB_iff, digC_nat (by omega)]; omega
theorem dec_val (u : Nat) : valL (Lib.decDigits u) = u := by
  induction u using Nat.strongRecOn with
  | _ u ih =>
    rcases dec_cases u with ⟨h, e⟩ | ⟨h, e⟩
    · rw [e]; simp [valL, valF, digC_nat h]
    · rw [e, valL_snoc, ih (u / 10) (by omega), digC_nat (by omega)]; omega
theorem dec_ne (u : Nat) : 1 ≤ (Lib.decDigits u).length := by
  rcases dec_cases u with ⟨_, e⟩ | ⟨_, e⟩ <;> rw [e] <;> simp
theorem dec_le : ∀ (k u : Nat), u < 10 ^ (k + 1) → (Lib.decDigits u).length ≤ k + 1 := by
  intro k
  induction k with
  | zero => intro u h; rcases dec_cases u with ⟨_, e⟩ | ⟨h2, e⟩
            · rw [e]; simp
            · omega
  | succ k ih =>
    intro u h
    rcases dec_cases u with ⟨_, e⟩ | ⟨h2, e⟩
    · rw [e]; simp
    · rw [e, List.length_append]
      have := ih (u / 10) (by rw [Nat.pow_succ] at h; omega)
      simp; omega
theorem valF_lt : ∀ (l : List UInt8) (acc : Nat), l.all digB = true → valF l acc < (acc + 1) * 10 ^ l.length
  | [], acc, _ => by simp [valF]
  | c :: r, acc, h => by
    rw [List.all_cons, Bool.and_eq_true] at h
    have h1 := valF_lt r (acc * 10 + (c.toNat - 48)) h.2
    have h2 := digB_iff.1 h.1
    have h3 : acc * 10 + (c.toNat - 48) + 1 ≤ (acc + 1) * 10 := by omega
    have h4 := Nat.mul_le_mul_right (10 ^ r.length) h3
    have e : valF (c :: r) acc = valF r (acc * 10 + (c.toNat - 48)) := rfl
    rw [e, List.length_cons, Nat.pow_succ]
    have h5 : (acc + 1) * 10 * 10 ^ r.length = (acc + 1) * (10 ^ r.length * 10) := by rw [Nat.mul_assoc, Nat.mul_comm 10]
    omega
theorem valL_lt (l : List UInt8) (h : l.all digB = true) : valL l < 10 ^ l.length := by
  have := valF_lt l 0 h
  simpa [valL] using this

/-! ### The library's reader gives back what the library's writer wrote -/
theorem p10_snoc : ∀ (l : List UInt8) (acc v : Nat) (c : UInt8), Lib.parseUint10 acc l = .ok v → digB c = true → v < 1844674407370955161 → Lib.parseUint10 acc (l ++ [c]) = .ok (v * 10 + (c.toNat - 48))
  | [], acc, v, c, h, hc, hv => by
    simp only [Lib.parseUint10] at h
    injection h with h
    subst h
    rw [digB_iff] at hc
    simp only [List.nil_append, Lib.parseUint10]
    rw [if_pos hc, if_neg (by omega), if_neg (by omega)]
  | b :: r, acc, v, c, h, hc, hv => by
    simp only [List.cons_append, Lib.parseUint10] at h ⊢
    split at h
    · rename_i h1
      rw [if_pos h1]
      split at h
      · cases h
      · rename_i h2
        rw [if_neg h2]
        split at h
        · cases h
        · rename_i h3
          rw [if_neg h3]
          exact p10_snoc r _ v c h hc hv
    · cases h
theorem p10_dec (u : Nat) (h : u < 10000000000) : Lib.parseUint10 0 (Lib.decDigits u) = .ok u := by
  induction u using Nat.strongRecOn with
  | _ u ih =>
    rcases dec_cases u with ⟨h1, e⟩ | ⟨h1, e⟩
    · rw [e]
      have := p10_snoc [] 0 0 (digC u) rfl (by rw [digB_iff, digC_nat h1]; omega) (by omega)
      rw [digC_nat h1] at this
      simpa using this
    · rw [e, p10_snoc _ 0 (u / 10) _ (ih (u / 10) (by omega) (by omega)) (by rw [digB_iff, digC_nat (by omega)]; omega) (by omega), digC_nat (by omega)]
      congr 1; omega
theorem dec_head (u : Nat) : ∃ c r, Lib.decDigits u = c :: r ∧ digB c = true := by
  have h1 := dec_ne u
  have h2 := dec_all u
  cases h : Lib.decDigits u with
  | nil => rw [h] at h1; simp at h1
  | cons c r => rw [h] at h2; simp at h2; exact ⟨c, r, rfl, h2.1⟩
theorem atoi_itoa (v : Int) (h0 : -999999999 ≤ v) (h1 : v ≤ 999999999) : Lib.atoiAll (Lib.itoa v) = .ok v := by
  by_cases hp : 0 ≤ v
  · obtain ⟨u, rfl⟩ : ∃ u : Nat, v = u := ⟨v.toNat, by omega⟩
    rw [Lib.itoa_nonneg]
    obtain ⟨c, r, e, hc⟩ := dec_head u
    have hm : Lib.parseMag (Lib.decDigits u) = .ok u := by
      unfold Lib.parseMag; rw [if_neg (by rw [e]; simp)]; exact p10_dec u (by omega)
    rw [digB_iff] at hc
    rw [e] at hm ⊢
    simp only [Lib.atoiAll]
    rw [if_neg (by omega), hm]
    simp only
    rw [if_neg (by omega), if_neg (by omega), if_neg (by omega)]
  · obtain ⟨u, rfl⟩ : ∃ u : Nat, v = -(u : Int) := ⟨(-v).toNat, by omega⟩
    rw [Lib.itoa_neg u (by omega)]
    obtain ⟨c, r, e, hc⟩ := dec_head u
    have hm : Lib.parseMag (Lib.decDigits u) = .ok u := by
      unfold Lib.parseMag; rw [if_neg (by rw [e]; simp)]; exact p10_dec u (by omega)
    simp only [Lib.atoiAll]
    rw [if_pos (by right; rfl), hm]
    simp only
    rw [if_neg (by simp), if_neg (by omega), if_pos (by rfl)]

/-- What ParseInt hands back. -/
def pVal (l : List UInt8) : Int × Bool := match Lib.atoiAll l with
  | .ok v => if -999999999 ≤ v ∧ v ≤ 999999999 ∧ Lib.itoa v = l then (v, true) else (0, false)
  | _ => (0, false)
theorem pVal_yes {l : List UInt8} {v : Int} (h0 : -999999999 ≤ v) (h1 : v ≤ 999999999) (h : Lib.itoa v = l) : pVal l = (v, true) := by
  unfold pVal; rw [← h, atoi_itoa v h0 h1]; simp [h0, h1]
theorem pVal_no {l : List UInt8} (h : ∀ v, -999999999 ≤ v → v ≤ 999999999 → Lib.itoa v ≠ l) : pVal l = (0, false) := by
  unfold pVal
  split
  · rename_i v _
    rw [if_neg (by rintro ⟨a, b, c⟩; exact h v a b c)]
  · rfl

def negB (l : List UInt8) : Bool := decide (((l.getD 0 0).toNat : Int) = 45)
def sgn (l : List UInt8) : Nat := if negB l = true then 1 else 0
def bodyL (l : List UInt8) : List UInt8 := l.drop (sgn l)
def numL (l : List UInt8) : Int := if negB l = true then -(valL (bodyL l) : Int) else (valL (bodyL l) : Int)
theorem itoa_body {v : Int} {l : List UInt8} (h : Lib.itoa v = l) : bodyL l = Lib.decDigits v.natAbs ∧ numL l = v := by
  by_cases hp : 0 ≤ v
  · obtain ⟨u, rfl⟩ : ∃ u : Nat, v = u := ⟨v.toNat, by omega⟩
    rw [Lib.itoa_nonneg] at h
    obtain ⟨c, r, e, hc⟩ := dec_head u
    rw [digB_iff] at hc
    have hn : negB l = false := by
      rw [← h, e]
      simp only [negB, List.getD_cons_zero, decide_eq_false_iff_not]; omega
    have hb : bodyL l = Lib.decDigits u := by unfold bodyL sgn; rw [hn, ← h]; rfl
    refine ⟨by rw [hb]; rfl, ?_⟩
    unfold numL; rw [hn, hb, dec_val]; rfl
  · obtain ⟨u, rfl⟩ : ∃ u : Nat, v = -(u : Int) := ⟨(-v).toNat, by omega⟩
    rw [Lib.itoa_neg u (by omega)] at h
    have hn : negB l = true := by rw [← h]; rfl
    have hb : bodyL l = Lib.decDigits u := by unfold bodyL sgn; rw [hn, ← h]; rfl
    refine ⟨by rw [hb]; congr 1; omega, ?_⟩
    unfold numL; rw [hn, hb, dec_val]; rfl
theorem pNo_byte {l : List UInt8} (h : (bodyL l).all digB = false) : pVal l = (0, false) := by
  apply pVal_no
  intro v _ _ e
  rw [(itoa_body e).1, dec_all] at h
  cases h
theorem pNo_short {l : List UInt8} (h : (bodyL l).length = 0) : pVal l = (0, false) := by
  apply pVal_no
  intro v _ _ e
  rw [(itoa_body e).1] at h
  have := dec_ne v.natAbs
  omega
theorem pNo_long {l : List UInt8} (h : 10 ≤ (bodyL l).length) : pVal l = (0, false) := by
  apply pVal_no
  intro v h0 h1 e
  rw [(itoa_body e).1] at h
  have := dec_le 8 v.natAbs (by omega)
  omega
theorem pNo_text {l : List UInt8} (h : Lib.itoa (numL l) ≠ l) : pVal l = (0, false) := by
  apply pVal_no
  intro v _ _ e
  rw [(itoa_body e).2] at h
  exact h e
theorem val_bound {l : List UInt8} {k : Nat} (h : l.all digB = true) (hk : l.length ≤ k) : valL l < 10 ^ k :=
  Nat.lt_of_lt_of_le (valL_lt l h) (Nat.pow_le_pow_right (by omega) hk)
theorem numL_bound {l : List UInt8} (h : (bodyL l).all digB = true) (h9 : (bodyL l).length ≤ 9) : -999999999 ≤ numL l ∧ numL l ≤ 999999999 := by
  have hb := val_bound h h9
  unfold numL
  split <;> omega
theorem pYes {l : List UInt8} (h : (bodyL l).all digB = true) (h9 : (bodyL l).length ≤ 9) (e : Lib.itoa (numL l) = l) : pVal l = (numL l, true) :=
  pVal_yes (numL_bound h h9).1 (numL_bound h h9).2 e

/-- The digits before place k. -/
def ds (s : ByteArray) (k : Nat) : List UInt8 := (s.data.toList.take k).drop (sgn s.data.toList)
theorem sgn_le (l : List UInt8) : sgn l ≤ 1 := by unfold sgn; split <;> omega
theorem ds_zero (s : ByteArray) : ds s 0 = [] := by simp [ds]
theorem ds_one {s : ByteArray} (h : negB s.data.toList = true) : ds s 1 = [] := by
  unfold ds sgn; rw [if_pos h]
  simp
theorem ds_len {s : ByteArray} {k : Nat} (hk : k ≤ s.size) : (ds s k).length = k - sgn s.data.toList := by
  unfold ds; rw [List.length_drop, List.length_take, size_list]; omega
theorem ds_succ {s : ByteArray} {k : Nat} (hk : k < s.size) (h : sgn s.data.toList ≤ k) : ds s (k + 1) = ds s k ++ [s[k]] := by
  unfold ds
  rw [take_snoc s k hk, List.drop_append_of_le_length (by rw [List.length_take, size_list]; omega)]
theorem ds_all {s : ByteArray} {k : Nat} (hk : s.size ≤ k) : ds s k = bodyL s.data.toList := by
  unfold ds bodyL; rw [List.take_of_length_le (by rw [size_list]; exact hk)]
theorem body_len (s : ByteArray) : (bodyL s.data.toList).length = s.size - sgn s.data.toList := by
  unfold bodyL; rw [List.length_drop, size_list]
theorem body_byte {s : ByteArray} {k : Nat} (i0 : k < s.size) (h : sgn s.data.toList ≤ k) (hc : digB (s[k]'i0) = false) : (bodyL s.data.toList).all digB = false := by
  rw [List.all_eq_false]
  refine ⟨s[k]'i0, ?_, by simp [hc]⟩
  unfold bodyL
  have e : s.data.toList.drop (sgn s.data.toList) = (s.data.toList.take k).drop (sgn s.data.toList) ++ s.data.toList.drop k := by
    rw [← List.drop_append_of_le_length (by rw [List.length_take, size_list]; omega), List.take_append_drop]
  rw [e, List.drop_eq_getElem_cons (show k < s.data.toList.length from i0)]
  exact List.mem_append_right _ (List.mem_cons_self ..)
theorem negB_at {s : ByteArray} (i0 : 0 < s.size) : negB s.data.toList = decide (((s[0]'i0).toNat : Int) = 45) := by
  unfold negB
  have h' : 0 < s.data.toList.length := i0
  rw [List.getD_eq_getElem?_getD, List.getElem?_eq_getElem h']; rfl
end Go.Proofs.YtmglolpiekbnpaaDoor
