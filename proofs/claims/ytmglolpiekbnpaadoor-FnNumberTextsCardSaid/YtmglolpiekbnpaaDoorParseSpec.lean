/- Reading integers: the specification's function, against one plain function. -/
import Derived.Test.YtmglolpiekbnpaaDoorRows
import Derived.Test.YtmglolpiekbnpaaDoorParseMath
import Derived.Test.YtmglolpiekbnpaaDoorFmtSpec
import Derived.WalkKit
import Derived.WalkSpells
import Derived.WalkLawsBesides
import Derived.Lib.Hide
namespace Go.Proofs.YtmglolpiekbnpaaDoor
open Go.RowKit

/-- What the loop knows at its head: k bytes read, d digits among them, n their value. -/
def ParseAt (s : ByteArray) (k d n : Nat) : Prop := k ≤ s.size ∧ d = (ds s k).length ∧ n = valL (ds s k) ∧ (ds s k).all digB = true ∧ (k = 0 ∨ sgn s.data.toList ≤ k) ∧ d ≤ 10
theorem ParseAt.start (s : ByteArray) : ParseAt s 0 0 0 := ⟨Nat.zero_le _, by rw [ds_zero]; rfl, by rw [ds_zero]; rfl, by rw [ds_zero]; rfl, .inl rfl, by omega⟩
theorem ParseAt.sign {s : ByteArray} {k d n : Nat} (h : ParseAt s k d n) (hk : k = 0) (hs : 0 < s.size) (hn : negB s.data.toList = true) : ParseAt s (k + 1) d n := by
  subst hk
  obtain ⟨_, h1, h2, _, _, h5⟩ := h
  rw [ds_zero] at h1 h2
  have e := ds_one hn
  exact ⟨by omega, by rw [e]; exact h1, by rw [e]; exact h2, by rw [e]; rfl, .inr (sgn_le _), h5⟩
theorem ParseAt.digit {s : ByteArray} {k d n : Nat} (h : ParseAt s k d n) (i0 : k < s.size) (hd : d < 10) (hs : sgn s.data.toList ≤ k) (hc : digB (s[k]'i0) = true) : ParseAt s (k + 1) (d + 1) (n * 10 + ((s[k]'i0).toNat - 48)) := by
  obtain ⟨_, h1, h2, h3, _, _⟩ := h
  have e := ds_succ i0 hs
  exact ⟨by omega, by rw [e, h1]; simp, by rw [e, h2, valL_snoc], by rw [e, List.all_append, h3]; simp [hc], .inr (by omega), by omega⟩
theorem ParseAt.num {s : ByteArray} {k d n : Nat} (h : ParseAt s k d n) : n < 10000000000 ∧ (d ≤ 9 → n ≤ 999999999) := by
  obtain ⟨_, h1, h2, h3, _, h5⟩ := h
  have a := val_bound h3 (k := 10) (by omega)
  refine ⟨by omega, fun h9 => ?_⟩
  have b := val_bound h3 (k := 9) (by omega)
  omega
theorem ParseAt.size {s : ByteArray} {k d n : Nat} (h : ParseAt s k d n) : d ≤ k ∧ (d = 10 → 10 ≤ (bodyL s.data.toList).length) := by
  obtain ⟨h0, h1, _, _, _, _⟩ := h
  rw [ds_len h0] at h1
  rw [body_len]
  omega
theorem ParseAt.last {s : ByteArray} {k d n : Nat} (h : ParseAt s k d n) (hk : s.size ≤ k) : (bodyL s.data.toList).all digB = true ∧ (bodyL s.data.toList).length = d ∧ valL (bodyL s.data.toList) = n := by
  obtain ⟨_, h1, h2, h3, _, _⟩ := h
  rw [ds_all hk] at h1 h2 h3
  exact ⟨h3, h1.symm, h2.symm⟩
theorem sgn_no {l : List UInt8} (h : negB l = false) : sgn l = 0 := by unfold sgn; rw [h]; rfl
theorem ret_ib {a : Int} {b : Bool} {p : Int × Bool} (h : p = (a, b)) : Ending.returned (.tuple #[.int .i64 a, .bool b]) = .returned (.tuple #[.int .i64 p.1, .bool p.2]) := by rw [h]

theorem int_eq {a b : Int} (h : a = b) : Value.int .i64 a = Value.int .i64 b := by rw [h]
theorem wrap64_byteP (c : UInt8) (h : 48 ≤ c.toNat) : wrap64 ((c.toNat : Int) - 48) = (c.toNat : Int) - 48 := by
  have := c.toNat_lt
  exact IntWalk.wrap64_in _ (by omega)
end Go.Proofs.YtmglolpiekbnpaaDoor
