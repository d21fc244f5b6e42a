/- Vectors of items alone as results of laws: they are small, they fit, and their marks are few; ints that come in, with their bounds. -/
import Derived.Test.YteigfhenbmhepaaRows
import Derived.Test.YteigfhenbmhepaaVecLog
import Derived.WalkKit
import Derived.OpenShut
import Derived.Lib.Hide
namespace Go.Proofs.Yteigfhenbmhepaa
open Go.RowKit
set_option maxRecDepth 100000
set_option linter.unusedVariables false

theorem mem_itF {g : Nat → It} {n : Nat} {x : It} (h : x ∈ itF g n) : ∃ i, i < n ∧ x = g i := by
  obtain ⟨i, hi, rfl⟩ := List.mem_map.1 h
  exact ⟨i, List.mem_range.1 hi, rfl⟩
theorem cnt_vecOf (k : Int) (l : List It) : cntM 1 (vecOf k l) = 3 * l.length := by
  show cntM 1 (.mk k l [] [] [] [] 0 0) = _
  rw [cntM_eq]
  show 3 * l.length + sumN _ 0 + 0 + 0 + 0 = _
  simp [sumN]
theorem cnt_noV : cntM 1 noV = 0 := by
  show cntM 1 (.mk 0 [] [] [] [] [] 0 0) = _
  rw [cntM_eq]
  show 3 * 0 + sumN _ 0 + 0 + 0 + 0 = _
  simp [sumN]
theorem small_res (k : Int) (g : Nat → It) (n : Nat) (h : ∀ i, (g i).t.size ≤ 1048576) : Small 1 (if n ≤ 40 then vecOf k (itF g n) else noV) := by
  split
  · exact small_vecOf (by rw [itF_len]; omega) (fun x hx => by obtain ⟨i, _, rfl⟩ := mem_itF hx; exact h i)
  · exact small_noV
theorem fits_res (k : Int) (g : Nat → It) (n : Nat) (hk : -9223372036854775808 ≤ k ∧ k ≤ 9223372036854775807) (h : ∀ i, InB (g i)) : Fits 1 (if n ≤ 40 then vecOf k (itF g n) else noV) := by
  split
  · exact fits_vecOf hk (by rw [itF_len]; omega) (fun x hx => by obtain ⟨i, _, rfl⟩ := mem_itF hx; exact h i)
  · exact fits_noV
theorem cnt_res (k : Int) (g : Nat → It) (n : Nat) : 1 + cntM 1 (if n ≤ 40 then vecOf k (itF g n) else noV) ≤ 8000000 := by
  split
  · rw [cnt_vecOf, itF_len]; omega
  · rw [cnt_noV]; omega
theorem logI_t (x : Int) : (logI x).t.size ≤ 1048576 := by
  unfold logI; repeat' split
  all_goals exact Nat.zero_le _
theorem inB_small {n d : Int} (h : (-9223372036854775808 ≤ n ∧ n ≤ 9223372036854775807) ∧ (-9223372036854775808 ≤ d ∧ d ≤ 9223372036854775807)) : InB ⟨n, d, ⟨#[]⟩⟩ := ⟨h.1, h.2, Nat.zero_le _⟩
theorem inB_noI : InB noI := inB_small (by decide)
theorem logI_in (x : Int) : InB (logI x) := by
  unfold logI; split
  · exact inB_small (by decide)
  · split
    · exact inB_small (by decide)
    · exact inB_noI
/-- What a slice of ints that came in holds, with the bounds of its ints. -/
theorem ints_inb {H : Type} {enc : TypeId × Value → H} {W : World} {base : Nat} {sp : Nat → Bool} {held : Bool} {fuel : Nat} {a : Option Addr} {n cap : Nat} {x : DataW H × List MemPlace}
    (hf : DataW.trod enc Try.prog W base sp held fuel 22 (Value.slice a n cap).cells.toList = some x) :
    ∃ f : Nat → Int, IntsAt W.heap.size W a n f ∧ n ≤ maxLen ∧ ∀ i, -9223372036854775808 ≤ f i ∧ f i ≤ 9223372036854775807 := by
  rcases ChangeShapes.open_ints Try.underlying22 Try.underlying3 cellsIntOf hf with ⟨hcs, _⟩ | ⟨b, l, c, zs, hcs, _, hl, hm, hz, _, hcell, hws⟩
  · simp [Value.cells] at hcs
    obtain ⟨rfl, rfl, rfl⟩ := hcs
    exact ⟨fun _ => 0, fun i hi => absurd hi (Nat.not_lt_zero _), Nat.zero_le _, fun _ => ⟨by simp, by simp⟩⟩
  · simp [Value.cells] at hcs
    obtain ⟨rfl, rfl, rfl⟩ := hcs
    refine ⟨fun i => zs.getD i 0, fun i hi => ?_, by omega, fun i => ?_⟩
    · have hlen : i < zs.length := by rw [hz]; split <;> omega
      have hc := hcell i hlen
      obtain ⟨bb, off, spot⟩ := b
      have hspot : spot = none := by simpa [Addr.add] using World.cell?_spot (hcell 0 (by omega))
      subst hspot
      rw [addr_add] at hc
      exact ⟨bb, off, rfl, cellI_lt hc, hc⟩
    · rcases Nat.lt_or_ge i zs.length with h | h
      · have e : zs.getD i 0 = zs[i] := by simp [List.getD_eq_getElem?_getD, List.getElem?_eq_getElem h]
        show -9223372036854775808 ≤ zs.getD i 0 ∧ zs.getD i 0 ≤ 9223372036854775807
        rw [e]
        exact Go.bounds_i64 (hws _ (List.getElem_mem h))
      · have e : zs.getD i 0 = 0 := by simp [List.getD_eq_getElem?_getD, List.getElem?_eq_none h]
        show -9223372036854775808 ≤ zs.getD i 0 ∧ zs.getD i 0 ≤ 9223372036854775807
        rw [e]; decide
end Go.Proofs.Yteigfhenbmhepaa
