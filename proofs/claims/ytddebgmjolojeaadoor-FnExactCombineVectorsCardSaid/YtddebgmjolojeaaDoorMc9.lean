/- How large what CombineVectors answers is. -/
import Derived.Test.YtddebgmjolojeaaDoorRows
import Derived.Test.YtddebgmjolojeaaDoorMc4
import Derived.Test.YtddebgmjolojeaaDoorMc3
import Derived.Lib.ItoaLen
import Derived.WalkKit
namespace Go.Proofs.YtddebgmjolojeaaDoor
open Go.RowKit
set_option maxRecDepth 100000
set_option linter.unusedVariables false

theorem clnN_subK (l : List ByteArray) : (clnN l).length ≤ l.length ∧ ∀ s ∈ clnN l, s ∈ l := by
  unfold clnN; split
  · exact ⟨Nat.le_refl _, fun s h => h⟩
  · exact ⟨Nat.zero_le _, fun s h => by cases h⟩
theorem smallK : ∀ (d : Nat) (v : Vec), Small d v → Small (d + 1) v
  | 0, _, h => h.elim
  | d + 1, .mk _ _ _ _ _ _ _ _, h => by
    obtain ⟨h1, h2, h3, h4, h5, h6, h7, h8, h9, h10⟩ := h
    exact ⟨h1, h2, h3, h4, h5, h6, h7, h8, h9, fun p hp => smallK d p (h10 p hp)⟩
theorem smallK_le {d : Nat} {v : Vec} (h : Small d v) : ∀ m, Small (d + m) v
  | 0 => h
  | m + 1 => smallK _ _ (smallK_le h m)
theorem smallK_to {d e : Nat} {v : Vec} (h : Small d v) (hd : d ≤ e) : Small e v := by
  have q := smallK_le h (e - d)
  rwa [show d + (e - d) = e by omega] at q
theorem itoa_two : ∀ k : Nat, k < 40 → (Lib.itoa ((k : Int) + 1)).length ≤ 2 := by decide +kernel
theorem cmbN_small {label own : ByteArray} {len k : Nat} (hk : k < 40) (h : label.size + own.size + 2 ≤ 1048576) : (cmbN label own len k).size ≤ 1048576 := by
  have h2 := itoa_two k hk
  have e0 : (⟨#[46]⟩ : ByteArray).size = 1 := rfl
  have e1 : (⟨(Lib.itoa ((k : Int) + 1)).toArray⟩ : ByteArray).size = (Lib.itoa ((k : Int) + 1)).length := by show (Lib.itoa ((k : Int) + 1)).toArray.size = _; simp
  unfold cmbN
  split
  · omega
  · split
    · rw [ByteArray.size_append, ByteArray.size_append, e0]; omega
    · split
      · omega
      · rw [ByteArray.size_append, e1]; omega
theorem cmI_mem {j : Int} {l : List Vec} {x : It} : ∀ k, x ∈ cmI j l k → ∃ i, i < k ∧ x ∈ itmV (coeV j (l.getD i noV))
  | 0, h => by cases h
  | k + 1, h => by
    rcases List.mem_append.1 (show x ∈ cmI j l k ++ itmV (coeV j (l.getD k noV)) from h) with h | h
    · obtain ⟨i, hi, h⟩ := cmI_mem k h; exact ⟨i, by omega, h⟩
    · exact ⟨k, by omega, h⟩
theorem cmP_mem {j : Int} {l : List Vec} {x : Vec} : ∀ k, x ∈ cmP j l k → ∃ i, i < k ∧ x ∈ partsV (coeV j (l.getD i noV))
  | 0, h => by cases h
  | k + 1, h => by
    rcases List.mem_append.1 (show x ∈ cmP j l k ++ partsV (coeV j (l.getD k noV)) from h) with h | h
    · obtain ⟨i, hi, h⟩ := cmP_mem k h; exact ⟨i, by omega, h⟩
    · exact ⟨k, by omega, h⟩
theorem cmN_mem {label : ByteArray} {p : Vec} {s : ByteArray} : ∀ k, s ∈ cmN label p k → ∃ q, q < k ∧ s = cmbN label (nmA (nmsV p) q) (lengthV p) q
  | 0, h => by cases h
  | k + 1, h => by
    rcases List.mem_append.1 (show s ∈ cmN label p k ++ [cmbN label (nmA (nmsV p) k) (lengthV p) k] from h) with h | h
    · obtain ⟨q, hq, h⟩ := cmN_mem k h; exact ⟨q, by omega, h⟩
    · exact ⟨k, by omega, List.mem_singleton.1 h⟩
theorem cmT_mem {l : List Vec} {N : List ByteArray} {s : ByteArray} : ∀ k, s ∈ cmT l N k → ∃ i q, i < k ∧ q < lengthV (l.getD i noV) ∧ s = cmbN (nmA N i) (nmA (nmsV (l.getD i noV)) q) (lengthV (l.getD i noV)) q
  | 0, h => by cases h
  | k + 1, h => by
    rcases List.mem_append.1 (show s ∈ cmT l N k ++ cmN (nmA N k) (l.getD k noV) (lengthV (l.getD k noV)) from h) with h | h
    · obtain ⟨i, q, h1, h2, h3⟩ := cmT_mem k h; exact ⟨i, q, by omega, h2, h3⟩
    · obtain ⟨q, hq, e⟩ := cmN_mem _ h; exact ⟨k, q, by omega, hq, e⟩
/-- The names fit the laws' budget: a label, a name and two more. -/
def NmB (l : List Vec) (N : List ByteArray) : Prop := ∀ i q, i < l.length → (nmA N i).size + (nmA (nmsV (l.getD i noV)) q).size + 2 ≤ 1048576
theorem cm_names {l : List Vec} {N : List ByteArray} (hv : AllV l) (hb : NmB l N) : ∀ s ∈ clnN (cmT l N l.length), s.size ≤ 1048576 := fun s hs => by
  obtain ⟨i, q, h1, h2, rfl⟩ := cmT_mem _ ((clnN_subK _).2 s hs)
  have := valid_len (hv i h1)
  exact cmbN_small (by omega) (hb i q h1)
theorem small_its {d : Nat} {v : Vec} (h : Small (d + 1) v) : ∀ x ∈ itmV v, x.t.size ≤ 1048576 := by
  obtain ⟨kk, items, parts, names, cls, levels, code, env⟩ := v
  exact h.2.2.2.2.2.1
theorem small_prt {d : Nat} {v : Vec} (h : Small (d + 1) v) : ∀ x ∈ partsV v, Small d x := by
  obtain ⟨kk, items, parts, names, cls, levels, code, env⟩ := v
  exact h.2.2.2.2.2.2.2.2.2
theorem fits_its {d : Nat} {v : Vec} (h : Fits (d + 1) v) : ∀ x ∈ itmV v, (-9223372036854775808 ≤ x.n ∧ x.n ≤ 9223372036854775807) ∧ (-9223372036854775808 ≤ x.d ∧ x.d ≤ 9223372036854775807) ∧ x.t.size ≤ maxLen := by
  obtain ⟨kk, items, parts, names, cls, levels, code, env⟩ := v
  unfold Fits at h
  exact h.2.2.2.2.2.2.2.2.1
theorem fits_prt {d : Nat} {v : Vec} (h : Fits (d + 1) v) : ∀ x ∈ partsV v, Fits d x := by
  obtain ⟨kk, items, parts, names, cls, levels, code, env⟩ := v
  unfold Fits at h
  exact h.2.2.2.2.2.2.2.2.2.2.2.2
theorem cm_small {d : Nat} {l : List Vec} {N : List ByteArray} (hv : AllV l) (hd : 1 ≤ d) (hs : ∀ i, i < l.length → Small d (l.getD i noV)) (ht : totL l l.length ≤ 40) (hb : NmB l N) : Small (d + 1) (cmR l N) := by
  have h1 := cm_len hv l.length (Nat.le_refl _)
  have h2 := cmT_len l N l.length
  have h3 := (clnN_subK (cmT l N l.length)).1
  have hc : ∀ i, i < l.length → Small (d + 1) (coeV (cmK l) (l.getD i noV)) := fun i hi => smallK_to (coe_small (hs i hi) (cm_ok hv hi)) (coeD_le hd)
  refine ⟨by omega, by omega, by omega, Nat.zero_le _, Nat.zero_le _, fun x hx => ?_, cm_names hv hb, (fun _ h => by cases h), (fun _ h => by cases h), fun p hp => ?_⟩
  · obtain ⟨i, hi, h⟩ := cmI_mem _ hx
    exact small_its (hc i hi) _ h
  · obtain ⟨i, hi, h⟩ := cmP_mem _ hp
    exact small_prt (hc i hi) _ h
theorem cm_fits {d : Nat} {l : List Vec} {N : List ByteArray} (hv : AllV l) (hd : 1 ≤ d) (hs : ∀ i, i < l.length → Small d (l.getD i noV)) (hf : ∀ i, i < l.length → Fits d (l.getD i noV)) (ht : totL l l.length ≤ 40) (hb : NmB l N) (hok : ValidV (cmR l N)) : Fits (d + 1) (cmR l N) := by
  have h1 := cm_len hv l.length (Nat.le_refl _)
  have h2 := cmT_len l N l.length
  have h3 := (clnN_subK (cmT l N l.length)).1
  have hk := valid_kind hok
  have hk : 0 ≤ cmK l ∧ cmK l ≤ 5 := hk
  have hc : ∀ i, i < l.length → Fits (d + 1) (coeV (cmK l) (l.getD i noV)) := fun i hi => Fits.le (coeD_le hd) (coe_fits (hs i hi) (hf i hi) (cm_ok hv hi))
  have hm : (maxLen : Nat) = 9223372036854775807 := rfl
  unfold cmR Fits
  refine ⟨⟨by omega, by omega⟩, ⟨by decide, by decide⟩, ⟨by decide, by decide⟩, by omega, by omega, by omega, Nat.zero_le _, Nat.zero_le _, fun x hx => ?_, fun s hs => by have := cm_names hv hb s hs; omega, (fun _ h => by cases h), (fun _ h => by cases h), fun p hp => ?_⟩
  · obtain ⟨i, hi, h⟩ := cmI_mem _ hx
    exact fits_its (hc i hi) _ h
  · obtain ⟨i, hi, h⟩ := cmP_mem _ hp
    exact fits_prt (hc i hi) _ h
/-- The names of one part, in the budget of all. -/
theorem nm_in {d : Nat} {p : Vec} (q : Nat) (hs : Small d p) : (nmA (nmsV p) q).size = 0 ∨ (nmA (nmsV p) q).size + 1 ≤ wV d p := by
  cases d with
  | zero => exact hs.elim
  | succ d =>
    obtain ⟨kk, items, parts, names, cls, levels, code, env⟩ := p
    by_cases hq : q < names.length
    · right
      have e : wV (d + 1) (.mk kk items parts names cls levels code env) = wI items + (parts.length + sumN (fun i => wV d (parts.getD i noV)) parts.length) + (names.length + sumF (txtS names) names.length) + wS cls + wS levels := rfl
      have h : (txtS names q).size ≤ sumF (txtS names) names.length := by have := sumF_at (txtS names) hq; omega
      rw [e]
      show (names.getD q ⟨#[]⟩).size + 1 ≤ _
      have h' : (names.getD q ⟨#[]⟩).size ≤ sumF (txtS names) names.length := h
      omega
    · left
      show (names.getD q ⟨#[]⟩).size = 0
      rw [List.getD_eq_getElem?_getD, List.getElem?_eq_none (by omega)]
      rfl
end Go.Proofs.YtddebgmjolojeaaDoor
